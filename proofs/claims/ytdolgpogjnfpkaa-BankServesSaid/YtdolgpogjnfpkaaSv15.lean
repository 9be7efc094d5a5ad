/- The document's Right. -/
import Derived.Test.YtdolgpogjnfpkaaSv14
namespace Go.Proofs.Ytdolgpogjnfpkaa
set_option linter.unusedVariables false
set_option linter.unusedSimpArgs false
open Go.ChangeShapes Go.WideShapes Go.ChangeAt Go.RowKit

def endsB (r : Rq) : Bool := decide (r.ad + (if single r.fc = true then 1 else r.q) ≤ 65536) && (decide (r.fc ≠ 23) || decide (r.to + (r.vn : Int) ≤ 65536))
theorem shape_facts {r : Rq} (h : shapeB r = true) : 0 ≤ r.ad ∧ r.ad < 65536 ∧ 0 ≤ r.to ∧ r.to < 65536 ∧ 0 ≤ r.q ∧ r.q ≤ 2000 ∧ r.vn ≤ 2000 := by
  unfold shapeB at h
  by_cases h0 : most r.fc = 0
  · rw [if_pos h0] at h; cases h
  rw [if_neg h0] at h
  by_cases h1 : isPl r.ad = false
  · rw [if_pos h1] at h; cases h
  rw [if_neg h1] at h
  by_cases h2 : isPl r.to = false
  · rw [if_pos h2] at h; cases h
  rw [if_neg h2] at h
  by_cases h3 : r.fc ≠ 23 ∧ r.to ≠ 0
  · rw [if_pos h3] at h; cases h
  rw [if_neg h3] at h
  by_cases h4 : single r.fc = true ∧ r.q ≠ 0
  · rw [if_pos h4] at h; cases h
  rw [if_neg h4] at h
  by_cases h5 : single r.fc = false ∧ (r.q < 1 ∨ most r.fc < r.q)
  · rw [if_pos h5] at h; cases h
  rw [if_neg h5] at h
  have e1 : isPl r.ad = true := by simpa using h1
  have e2 : isPl r.to = true := by simpa using h2
  simp only [isPl, Bool.and_eq_true, decide_eq_true_eq] at e1 e2
  have hm : most r.fc ≤ 2000 := by unfold most; repeat' split
                                   all_goals omega
  have hq : 0 ≤ r.q ∧ r.q ≤ 2000 := by
    cases hs : single r.fc with
    | true => rw [hs] at h4; simp at h4; omega
    | false => rw [hs] at h5; simp at h5; omega
  have hv : r.vn ≤ 2000 := by
    by_cases f5 : r.fc = 5
    · rw [if_pos f5] at h; simp at h; omega
    rw [if_neg f5] at h
    by_cases f6 : r.fc = 6
    · rw [if_pos f6] at h; simp at h; omega
    rw [if_neg f6] at h
    by_cases f15 : r.fc = 15
    · rw [if_pos f15] at h; simp at h; omega
    rw [if_neg f15] at h
    by_cases f16 : r.fc = 16
    · rw [if_pos f16] at h; simp at h; omega
    rw [if_neg f16] at h
    by_cases f22 : r.fc = 22
    · rw [if_pos f22] at h; simp at h; omega
    rw [if_neg f22] at h
    by_cases f23 : r.fc = 23
    · rw [if_pos f23] at h; simp at h; omega
    rw [if_neg f23] at h
    simp at h; omega
  exact ⟨e1.1, e1.2, e2.1, e2.2, hq.1, hq.2, hv⟩
set_option maxRecDepth 100000 in
set_option maxHeartbeats 8000000 in
theorem ends_any (r : Rq) (w : World) (hr : r.ok w) (hf : 0 ≤ r.ad ∧ r.ad < 65536 ∧ 0 ≤ r.to ∧ r.to < 65536 ∧ 0 ≤ r.q ∧ r.q ≤ 2000 ∧ r.vn ≤ 2000) : Calls Try.prog 47 #[rv r] w (BoolB w (endsB r)) := by
  obtain ⟨P, hP⟩ : ∃ P, P = (BoolB w (endsB r) : Ending → World → Prop) := ⟨_, rfl⟩
  rw [← hP]
  obtain ⟨sh, hsh⟩ : ∃ b, b = endsB r := ⟨_, rfl⟩
  have FIN : Hid (∀ W' b, b = sh → Below w.heap.size w W' → P (.returned (.bool b)) W') := Lib.hid (fun W' b e h => by rw [hP, e, hsh]; exact ⟨rfl, h⟩)
  obtain ⟨fc, ad, q, vs, vn, vc, V, rto⟩ := r
  have hmx := hr.arg.row.le
  unfold maxLen at hmx
  unfold endsB at hsh
  simp only at hsh hf hmx
  have SH := Lib.hid hsh
  have SG := Lib.hid (fun W => single_any fc W)
  generalize single fc = sg at SG SH
  have b1 := alloc_bq w (.cells #[.int .i64 fc, .int .i64 ad, .int .i64 q, .slice vs vn vc, .int .i64 rto] 32 (0, 0))
  have B1 := Lib.hid b1
  simp only [rv]
  have s1 : wrap64 (ad + 1) = ad + 1 := by unfold wrap64; omega
  have s2 : wrap64 (ad + q) = ad + q := by unfold wrap64; omega
  have s3 : wrap64 (rto + (vn : Int)) = rto + (vn : Int) := by unfold wrap64; omega
  clear hP hr hsh b1 hf hmx
  go_enter Try.func47, Try.ntmps47
  go_wp2_with fail
  refine (SG.out _).mono ?_
  rintro e w1 ⟨rfl, e1⟩
  rw [e1]
  clear e1 w1
  cases sg with
  | true =>
    rw [if_pos rfl] at SH
    by_cases h1 : ad + 1 ≤ 65536
    · have SH := Lib.hid (SH.out.trans (by rw [decide_eq_true h1, Bool.true_and]))
      have t1 : decide (ad + 1 ≤ 65536) = true := by simp [h1]
      clear h1
      by_cases h2 : fc = 23
      · have SH := Lib.hid (SH.out.trans (by rw [decide_eq_false (by simp [h2]), Bool.false_or]))
        have t2 : (fc != 23) = false := by simp [h2]
        clear h2
        by_cases h3 : rto + (vn : Int) ≤ 65536
        · have SH := Lib.hid (SH.out.trans (decide_eq_true h3))
          have t3 : decide (rto + (vn : Int) ≤ 65536) = true := by simp [h3]
          clear h3
          go_wp2_with fail
          exact FIN.out _ _ SH.out.symm B1.out
        · have SH := Lib.hid (SH.out.trans (decide_eq_false h3))
          have t3 : decide (rto + (vn : Int) ≤ 65536) = false := by simp [h3]
          clear h3
          go_wp2_with fail
          exact FIN.out _ _ SH.out.symm B1.out
      · have SH : Hid (sh = true) := Lib.hid (SH.out.trans (by rw [decide_eq_true h2, Bool.true_or]))
        have t2 : (fc != 23) = true := by simp [h2]
        clear h2
        go_wp2_with fail
        exact FIN.out _ _ SH.out.symm B1.out
    · have SH : Hid (sh = false) := Lib.hid (SH.out.trans (by rw [decide_eq_false h1, Bool.false_and]))
      have t1 : decide (ad + 1 ≤ 65536) = false := by simp [h1]
      clear h1
      go_wp2_with fail
      exact FIN.out _ _ SH.out.symm B1.out
  | false =>
    rw [if_neg (by simp)] at SH
    by_cases h1 : ad + q ≤ 65536
    · have SH := Lib.hid (SH.out.trans (by rw [decide_eq_true h1, Bool.true_and]))
      have t1 : decide (ad + q ≤ 65536) = true := by simp [h1]
      clear h1
      by_cases h2 : fc = 23
      · have SH := Lib.hid (SH.out.trans (by rw [decide_eq_false (by simp [h2]), Bool.false_or]))
        have t2 : (fc != 23) = false := by simp [h2]
        clear h2
        by_cases h3 : rto + (vn : Int) ≤ 65536
        · have SH := Lib.hid (SH.out.trans (decide_eq_true h3))
          have t3 : decide (rto + (vn : Int) ≤ 65536) = true := by simp [h3]
          clear h3
          go_wp2_with fail
          exact FIN.out _ _ SH.out.symm B1.out
        · have SH := Lib.hid (SH.out.trans (decide_eq_false h3))
          have t3 : decide (rto + (vn : Int) ≤ 65536) = false := by simp [h3]
          clear h3
          go_wp2_with fail
          exact FIN.out _ _ SH.out.symm B1.out
      · have SH : Hid (sh = true) := Lib.hid (SH.out.trans (by rw [decide_eq_true h2, Bool.true_or]))
        have t2 : (fc != 23) = true := by simp [h2]
        clear h2
        go_wp2_with fail
        exact FIN.out _ _ SH.out.symm B1.out
    · have SH : Hid (sh = false) := Lib.hid (SH.out.trans (by rw [decide_eq_false h1, Bool.false_and]))
      have t1 : decide (ad + q ≤ 65536) = false := by simp [h1]
      clear h1
      go_wp2_with fail
      exact FIN.out _ _ SH.out.symm B1.out
theorem right14 {r : Rq} {w : World} (hr : r.ok w) : (shapeB r && endsB r) = rightR r := by
  have hln := hr.arg.row.ln
  obtain ⟨fc, ad, q, vs, vn, vc, V, rto⟩ := r
  simp only at hln
  subst hln
  rw [Bool.eq_iff_iff]
  have hN : V.length = 0 → allB V = true := by intro h; rw [List.eq_nil_of_length_eq_zero h]; rfl
  have key : ∀ f, formOf fc = some f → ((shapeB ⟨fc, ad, q, vs, V.length, vc, V, rto⟩ && endsB ⟨fc, ad, q, vs, V.length, vc, V, rto⟩) = true ↔ rightR ⟨fc, ad, q, vs, V.length, vc, V, rto⟩ = true) := by
    intro f hf
    have hfo : fo fc = f := by unfold fo; rw [hf]; rfl
    unfold shapeB endsB rightR has fits
    simp only
    rw [hfo, hf]
    generalize V.length = n at hN ⊢
    generalize allB V = A at hN ⊢
    clear hfo
    unfold formOf at hf
    repeat' split at hf
    all_goals first | (cases hf; done) | (injection hf with hf; subst hf)
    all_goals
      subst fc
      simp [most, single, isPl, sizedF]
      cases A <;> simp at hN ⊢ <;> omega
  by_cases h1 : fc = 1
  · subst h1
    exact key _ rfl
  by_cases h2 : fc = 2
  · subst h2
    exact key _ rfl
  by_cases h3 : fc = 3
  · subst h3
    exact key _ rfl
  by_cases h4 : fc = 4
  · subst h4
    exact key _ rfl
  by_cases h5 : fc = 5
  · subst h5
    exact key _ rfl
  by_cases h6 : fc = 6
  · subst h6
    exact key _ rfl
  by_cases h15 : fc = 15
  · subst h15
    exact key _ rfl
  by_cases h16 : fc = 16
  · subst h16
    exact key _ rfl
  by_cases h22 : fc = 22
  · subst h22
    exact key _ rfl
  by_cases h23 : fc = 23
  · subst h23
    exact key _ rfl
  have e1 : shapeB ⟨fc, ad, q, vs, V.length, vc, V, rto⟩ = false := by
    unfold shapeB
    rw [if_pos (by unfold most; simp [h1, h2, h3, h4, h5, h6, h15, h16, h22, h23])]
  have e2 : rightR ⟨fc, ad, q, vs, V.length, vc, V, rto⟩ = false := by
    unfold rightR formOf
    simp [h1, h2, h3, h4, h5, h6, h15, h16, h22, h23]
  rw [e1, e2]
  simp
end Go.Proofs.Ytdolgpogjnfpkaa
/- The document's Right, called. -/
namespace Go.Proofs.Ytdolgpogjnfpkaa
set_option linter.unusedVariables false
set_option linter.unusedSimpArgs false
open Go.ChangeShapes Go.WideShapes Go.ChangeAt Go.RowKit

set_option maxRecDepth 100000 in
set_option maxHeartbeats 8000000 in
theorem right14_any (r : Rq) (w : World) (hr : r.ok w) : Calls Try.prog 38 #[rv r] w (BoolB w (rightR r)) := by
  rw [← right14 hr]
  obtain ⟨P, hP⟩ : ∃ P, P = (BoolB w (shapeB r && endsB r) : Ending → World → Prop) := ⟨_, rfl⟩
  rw [← hP]
  have HP := Lib.hid hP
  have SHP := Lib.hid (fun W (h : Below w.heap.size w W) => shape_any r W (hr.below h))
  have ENP := Lib.hid (fun W (h : Below w.heap.size w W) (hs : shapeB r = true) => ends_any r W (hr.below h) (shape_facts hs))
  generalize shapeB r = sb at HP SHP ENP
  generalize endsB r = eb at HP ENP
  obtain ⟨fc, ad, q, vs, vn, vc, V, rto⟩ := r
  simp only [rv] at SHP ENP ⊢
  have B0 := Lib.hid (alloc_bq w (.cells #[.int .i64 fc, .int .i64 ad, .int .i64 q, .slice vs vn vc, .int .i64 rto] 32 (0, 0)))
  have X0 := Lib.hid (heap_alloc_new w (.cells #[.int .i64 fc, .int .i64 ad, .int .i64 q, .slice vs vn vc, .int .i64 rto] 32 (0, 0)))
  have S0 := SHP.out _ B0.out
  clear hP hr
  go_enter Try.func38, Try.ntmps38
  go_wp2_with fail
  refine S0.mono ?_
  rintro e w1 ⟨rfl, z1⟩
  have B1 := Lib.hid (B0.out.trans (Below.mono z1 B0.out.size))
  obtain ⟨c0, c1, c2, c3, c4⟩ := cells5 (low_of z1 X0.out)
  clear z1 S0
  cases sb with
  | false =>
    go_wp2_with fail
    rw [HP.out]
    exact ⟨rfl, B1.out⟩
  | true =>
    have E1 := ENP.out w1 B1.out (by trivial)
    go_wp2_with fail
    refine E1.mono ?_
    rintro e w2 ⟨rfl, z2⟩
    have B2 := Lib.hid (B1.out.trans (Below.mono z2 B1.out.size))
    clear z2 E1
    go_wp2_with fail
    rw [HP.out]
    exact ⟨rfl, B2.out⟩
end Go.Proofs.Ytdolgpogjnfpkaa
/- The document's bytes: a word more. -/
namespace Go.Proofs.Ytdolgpogjnfpkaa
set_option linter.unusedVariables false
set_option linter.unusedSimpArgs false
open Go.ChangeShapes Go.WideShapes Go.ChangeAt Go.RowKit

/-- A row of the call's own has grown; what else lies behind is as it was. -/
def GrewP (B : Nat) (v : Value) (w : World) (L : List Nat) (e : Ending) (w' : World) : Prop :=
  ∃ v', e = .returned v' ∧ OwnV B w' v' L ∧ Below B w w' ∧ (∀ k, k < w.heap.size → v.ownBlock ≠ some k → w'.heap[k]? = w.heap[k]?) ∧ ∀ k, v'.ownBlock = some k → v.ownBlock = some k ∨ w.heap.size ≤ k
set_option maxRecDepth 100000 in
set_option maxHeartbeats 4000000 in
theorem word14_any (B : Nat) (v : Value) (L : List Nat) (x : Nat) (w : World) (hB : B ≤ w.heap.size) (ho : OwnV B w v L) (hx : x < 65536) (hL : L.length ≤ 40000) : Calls Try.prog 68 #[v, .int .i64 (x : Int)] w (GrewP B v w (L ++ wb [x])) := by
  obtain ⟨P, hP⟩ : ∃ P, P = (GrewP B v w (L ++ wb [x]) : Ending → World → Prop) := ⟨_, rfl⟩
  rw [← hP]
  have HP := Lib.hid hP
  obtain ⟨va, vc, rfl⟩ := own_form ho
  obtain ⟨m, hm⟩ : ∃ m, m = L.length := ⟨_, rfl⟩
  have Hm := Lib.hid hm
  have hO3 : w.ownsRow B 5 1 (.slice va L.length vc) L.length (bv L) := ho
  rw [← hm] at hO3 hP hL HP ⊢
  have HO3 := Lib.hid hO3
  have c1 : IntKind.u8.wrap ((x : Int) / 256) = ((x / 256 : Nat) : Int) := by simp [IntKind.wrap, IntKind.bits, IntKind.signed]; omega
  have c2 : IntKind.u8.wrap (x : Int) = ((x % 256 : Nat) : Int) := by simp [IntKind.wrap, IntKind.bits, IntKind.signed]
  clear hP ho hm hO3
  go_enter Try.func68, Try.ntmps68
  go_wp2_with (at_builtin; refine wpList_append_bys rfl (.tmp 5) (.tmp 11) rfl B _ ?hB _ m L rfl ?own (some ⟨w.heap.size, 0, none⟩) 2 2 [x / 256, x % 256] rfl ?hby ?nil ?le ?_)
  case hB => simp; omega
  case own => exact own_keep (w' := w.alloc (.cells #[.int .u8 ((x / 256 : Nat) : Int), .int .u8 ((x % 256 : Nat) : Int)] 5 (0, 0))) HO3.out ((Below.refl _ _).alloc (Nat.le_refl _) _)
  case hby =>
    refine bys_block [x / 256, x % 256] (by simp [maxLen]) ?_ ?_ (t := 5) (m := (0, 0))
    · intro b hb
      simp at hb
      omega
    · rw [heap_alloc_new]; simp [bv]
  case nil => intro e; cases e
  case le => omega
  intro v' w' ho' hg' _ hob
  have hbA : Below B w w' := ((Below.refl B w).alloc hB _).grown hg' (by simp; omega) (fun q hq => by
    have := (own_keep (w' := w.alloc (.cells #[.int .u8 ((x / 256 : Nat) : Int), .int .u8 ((x % 256 : Nat) : Int)] 5 (0, 0))) HO3.out ((Below.refl _ _).alloc (Nat.le_refl _) _)).lt q hq
    exact this.1)
  have FIN : Hid (P (.returned v') w') := Lib.hid (by
    rw [HP.out]
    refine ⟨v', rfl, ?_, hbA, fun k hk hne => ?_, fun k hk => ?_⟩
    · rw [wb_one]
      have e : (L ++ [x / 256, x % 256]).length = m + 2 := by rw [List.length_append, Hm.out]; rfl
      unfold OwnV
      rw [e]
      exact ho'
    · exact (hg'.block k (by simp; omega) (fun e => hne e.symm)).trans (heap_alloc_old _ _ hk)
    · rcases hob with hob | hob
      · exact .inl (by rw [← hob]; exact hk)
      · rw [hk] at hob
        simp at hob
        exact .inr (by omega))
  clear ho' hg' hob hbA
  go_wp2_with fail
  exact FIN.out
set_option maxRecDepth 100000 in
set_option maxHeartbeats 4000000 in
theorem words14_any (a : Option Addr) (n c : Nat) (V : List Nat) (w : World) (h : Wds w a n V) (hn : n ≤ 10000) : Calls Try.prog 61 #[.slice a n c] w (OutP w (wb V)) := by
  obtain ⟨P, hP⟩ : ∃ P, P = (OutP w (wb V) : Ending → World → Prop) := ⟨_, rfl⟩
  rw [← hP]
  have HP := Lib.hid hP
  have H := Lib.hid h
  have HLN := Lib.hid h.ln
  clear hP h
  go_enter Try.func61, Try.ntmps61
  go_wp2_with fail
  go_loopw [3, 4] (fun v iv wr => ∃ k : Nat, k ≤ n ∧ iv = .int .i64 k ∧ OwnV w.heap.size wr v (wb (V.take k)) ∧ Below w.heap.size w wr) (fun _ iv _ => n - (intOf iv).toNat)
  case atStart => exact ⟨0, Nat.zero_le _, rfl, by rw [List.take_zero]; exact ⟨rfl, .inl ⟨rfl, rfl⟩⟩, Below.refl _ _⟩
  case round =>
    obtain ⟨wo, rfl⟩ : ∃ wo : World, wo = wr := ⟨_, rfl⟩
    obtain ⟨k, hk, rfl, hO, hb⟩ := hrel
    by_cases hkn : k < n
    · obtain ⟨b, off, rfl, hc0⟩ := (H.out.below hb).row k hkn
      have ht := take_snoc' V k (by have := HLN.out; omega)
      have hv := wgetD_lt H.out.by' k
      generalize V.getD k 0 = x at hc0 ht hv
      have hwl := wb_len (V.take k)
      have htl : (V.take k).length = k := by rw [List.length_take]; have := HLN.out; omega
      have HT := Lib.hid ht
      have WD := Lib.hid (word14_any w.heap.size _ (wb (V.take k)) x wo hb.size hO hv (by omega))
      have HBE := Lib.hid hb
      have d0 : (k : Int) < (n : Int) := by omega
      have i0 : IntKind.i64.wrap (x : Int) = (x : Int) := IntWalk.i64_in _ (by omega)
      clear ht hO hb hwl htl
      go_wp2_with fail
      refine WD.out.mono ?_
      rintro e w1 ⟨v', rfl, ho', hb', _, _⟩
      have O5 := Lib.hid ho'
      have B5 := Lib.hid (HBE.out.trans hb')
      clear ho' hb' WD
      go_wp2_with fail
      go_roundw
      case rel => exact ⟨k + 1, by omega, by go_num, by rw [HT.out, wb_app]; exact O5.out, B5.out⟩
      case measure => simp [intOf]; omega
    · have hk' : k = n := by omega
      subst hk'
      rw [List.take_of_length_le (by have := HLN.out; omega)] at hO
      have O5 := Lib.hid hO
      have B5 := Lib.hid hb
      clear hO hb
      go_wp2_with fail
      rw [HP.out]
      exact ⟨_, rfl, O5.out, B5.out⟩
end Go.Proofs.Ytdolgpogjnfpkaa
/- The document's Bits. -/
namespace Go.Proofs.Ytdolgpogjnfpkaa
set_option linter.unusedVariables false
set_option linter.unusedSimpArgs false
open Go.ChangeShapes Go.WideShapes Go.ChangeAt Go.RowKit

set_option maxRecDepth 100000 in
set_option maxHeartbeats 4000000 in
theorem bitsD_any (a : Option Addr) (n c : Nat) (V : List Nat) (w : World) (h : Wds w a n V) (hn : n ≤ 100000) : Calls Try.prog 62 #[.slice a n c] w (BitsP w V) := by
  have H := Lib.hid h
  have hln := h.ln
  obtain ⟨m, hm⟩ : ∃ m, m = (n + 7) / 8 := ⟨_, rfl⟩
  have e1 : ((n : Int) + 7) / 8 = (m : Int) := by omega
  have e1' : ((n : Int) + 7).tdiv 8 = (m : Int) := by rw [Int.tdiv_eq_ediv_of_nonneg (by omega)]; exact e1
  have hmk : (Instr.makeSlice 33 (.int .i64 (((n : Int) + 7) / 8)) (.int .i64 (((n : Int) + 7) / 8))).run Try.prog w = .ok (.slice (some ⟨w.heap.size, 0, none⟩) m m) (w.alloc (.cells (bv (List.replicate m 0)).toArray 5 (0, 0))) := by rw [e1]; exact make_b m (by omega) w
  have h0 : (w.alloc (.cells (bv (List.replicate m 0)).toArray 5 (0, 0))).heap[w.heap.size]? = some (.cells (bv (bx V m 0)).toArray 5 (0, 0)) := by rw [bx_zero]; exact heap_alloc_new w _
  have H0 := Lib.hid h0
  have HM := Lib.hid hm
  clear h h0 hm
  go_enter Try.func62, Try.ntmps62
  clear e1 e1'
  go_wp2_with fail
  clear hmk
  go_loopw [4] (fun iv wr => ∃ k : Nat, k ≤ n ∧ iv = .int .i64 k ∧ wr.heap[w.heap.size]? = some (.cells (bv (bx V m k)).toArray 5 (0, 0)) ∧ Below w.heap.size w wr) (fun iv _ => n - (intOf iv).toNat)
  case atStart => exact ⟨0, Nat.zero_le _, rfl, H0.out, (Below.refl _ _).alloc (Nat.le_refl _) _⟩
  case round =>
    obtain ⟨wo, rfl⟩ : ∃ wo : World, wo = wr := ⟨_, rfl⟩
    obtain ⟨k, hk, rfl, hO, hb⟩ := hrel
    by_cases hkn : k < n
    · obtain ⟨b, off, rfl, hbl, hc⟩ := H.out.pos (by omega)
      have hc0 := (hb.cell (p := ⟨b, off + k, none⟩) hbl).trans (hc k hkn)
      have hv := wgetD_lt H.out.by' k
      have hs := bx_same V m k (by omega)
      have ht := bx_set V m k (by omega) (by have := HM.out; omega)
      generalize V.getD k 0 = v at hc0 hv hs ht
      have d0 : (k : Int) < (n : Int) := by omega
      have HO := Lib.hid hO
      have HB := Lib.hid hb
      have HS := Lib.hid hs
      have HT := Lib.hid ht
      clear hO hb hc hs ht
      by_cases hv0 : v = 0
      · have t1 : ((v : Int) != 0) = false := by simp [hv0]
        go_wp2_with fail
        go_roundw
        case rel => exact ⟨k + 1, by omega, by go_num, by rw [HS.out hv0]; exact HO.out, HB.out⟩
        case measure => simp [intOf]; omega
      · have t1 : ((v : Int) != 0) = true := by simp; omega
        have hj : k / 8 < m := by have := HM.out; omega
        have hx := byteAt_lt (V.take k) (k / 8)
        have hbx := bx_at V m k (k / 8) hj
        have hcell : wo.cell? ⟨w.heap.size, k / 8, none⟩ = some (.int .u8 ((byteAt (V.take k) (k / 8) : Nat) : Int)) := by
          have := bv_get (bx V m k) (k / 8) (by rw [bx_len]; exact hj)
          rw [hbx] at this
          simp [World.cell?, HO.out, this]
        have hfr : wo.frozen? ⟨w.heap.size, k / 8, none⟩ = false := by simp [World.frozen?, HO.out]
        have ht2 := HT.out hv0
        generalize byteAt (V.take k) (k / 8) = x at hcell hx ht2
        have HT2 := Lib.hid ht2
        clear ht2 hbx
        have i1 : (k : Int) / 8 < (m : Int) := by omega
        go_wp2_with fail
        go_region
        all_goals
          rw [or_pow x (k % 8) hx (by omega)]
          have hset : (wo.setCell ⟨w.heap.size, k / 8, none⟩ (.int .u8 ((x ||| 2 ^ (k % 8) : Nat) : Int))).heap[w.heap.size]? = some (.cells (bv (bx V m (k + 1))).toArray 5 (0, 0)) := by
            rw [HT2.out, ← bv_set]
            simp [World.setCell, Array.getElem?_modify, HO.out]
          have HSET := Lib.hid hset
          have B1 : Hid (Below w.heap.size w (wo.setCell ⟨w.heap.size, k / 8, none⟩ (.int .u8 ((x ||| 2 ^ (k % 8) : Nat) : Int)))) := Lib.hid (HB.out.setCell (Nat.le_refl _) _)
          clear hset
          generalize (wo.setCell ⟨w.heap.size, k / 8, none⟩ (.int .u8 ((x ||| 2 ^ (k % 8) : Nat) : Int))) = w5 at *
          go_wp2_with fail
          go_roundw
          case rel => exact ⟨k + 1, by omega, by go_num, HSET.out, B1.out.drew⟩
          case measure => simp [intOf]; omega
    · have hk' : k = n := by omega
      subst hk'
      have hf : BitsP w V (.returned (.slice (some ⟨w.heap.size, 0, none⟩) m m)) wo := by
        have e : bx V m k = bits V := by rw [HM.out, ← hln]; exact bx_full V _ (Nat.le_refl _)
        refine ⟨_, by rw [bits_len, hln, HM.out], by rw [← e]; exact hO, Nat.le_refl _, hb⟩
      have HF := Lib.hid hf
      clear hO hb hf
      go_wp2_with fail
      go_ret
      exact HF.out
end Go.Proofs.Ytdolgpogjnfpkaa
