/- The document's bytes of a request that has its shape: what is read. -/
import Derived.Test.YtdolgpogjnfpkaaSv15
import Derived.Deep.RegionHeld3
import Derived.Deep.AppendLies
namespace Go.Proofs.Ytdolgpogjnfpkaa
set_option linter.unusedVariables false
set_option linter.unusedSimpArgs false
open Go.ChangeShapes Go.WideShapes Go.ChangeAt Go.RowKit

theorem has_facts {r : Rq} (hk : formOf r.fc = some (fo r.fc)) (h : has (fo r.fc) r = true) : 1 ≤ r.fc ∧ r.fc ≤ 23 ∧ 0 ≤ r.q ∧ r.q ≤ 2000 := by
  have h1 := formOf_range hk
  have h2 := fit_of h
  have h3 := (formOf_small hk).q
  have h4 := h2.1.qle
  exact ⟨h1.1, h1.2, h2.2.2.2.2.2, by omega⟩
theorem putR_A {r : Rq} (hh : has (fo r.fc) r = true) (h : r.fc = 1 ∨ r.fc = 2 ∨ r.fc = 3 ∨ r.fc = 4) : putR (fo r.fc) r = [r.fc.toNat] ++ wb [r.ad.toNat] ++ wb [r.q.toNat] := by
  have hf := (fit_of hh).1.vmo
  have hf2 : r.V = [] := by
    have h0 : (fo r.fc).mo = 0 := by rcases h with e | e | e | e <;> rw [e] <;> rfl
    rw [h0] at hf
    exact List.eq_nil_of_length_eq_zero (by omega)
  unfold putR putN
  rw [hf2]
  rcases h with e | e | e | e <;> rw [e] <;> simp [fo, formOf, wb]
set_option maxRecDepth 100000 in
set_option maxHeartbeats 8000000 in
theorem bytesA_any (r : Rq) (w : World) (hr : r.ok w) (hk : formOf r.fc = some (fo r.fc)) (hh : has (fo r.fc) r = true) (h15 : r.fc = 1 ∨ r.fc = 2 ∨ r.fc = 3 ∨ r.fc = 4) : Calls Try.prog 46 #[rv r] w (OutP w (putR (fo r.fc) r)) := by
  rw [putR_A hh h15]
  obtain ⟨P, hP⟩ : ∃ P, P = (OutP w ([r.fc.toNat] ++ wb [r.ad.toNat] ++ wb [r.q.toNat]) : Ending → World → Prop) := ⟨_, rfl⟩
  rw [← hP]
  have HP := Lib.hid hP
  obtain ⟨hf1, hf2, hq1, hq2⟩ := has_facts hk hh
  have hft := fit_of hh
  obtain ⟨fc, ad, q, vs, vn, vc, V, rto⟩ := r
  simp only at hf1 hf2 hq1 hq2 hft h15 HP
  obtain ⟨fc, rfl⟩ : ∃ k : Nat, fc = (k : Int) := ⟨fc.toNat, by omega⟩
  obtain ⟨ad, rfl⟩ : ∃ k : Nat, ad = (k : Int) := ⟨ad.toNat, by omega⟩
  obtain ⟨q, rfl⟩ : ∃ k : Nat, q = (k : Int) := ⟨q.toNat, by omega⟩
  have had : ad < 65536 := by omega
  have hqq : q < 65536 := by omega
  simp only [Int.toNat_natCast] at HP
  simp only [rv]
  have i0 : IntKind.u8.wrap (fc : Int) = (fc : Int) := by simp [IntKind.wrap, IntKind.bits, IntKind.signed]; omega
  have FIN : Hid (∀ W' v, OwnV w.heap.size W' v ([fc] ++ wb [ad] ++ wb [q]) → Below w.heap.size w W' → P (.returned v) W') := Lib.hid (fun W' v h1 h4 => by
    rw [HP.out]; exact ⟨v, rfl, h1, h4⟩)
  have k1 := alloc_bq w (.cells #[.int .i64 (fc : Int), .int .i64 (ad : Int), .int .i64 (q : Int), .slice vs vn vc, .int .i64 rto] 32 (0, 0))
  have k2 := alloc_bq (w.alloc (.cells #[.int .i64 (fc : Int), .int .i64 (ad : Int), .int .i64 (q : Int), .slice vs vn vc, .int .i64 rto] 32 (0, 0))) (.cells #[.int .u8 (fc : Int)] 5 (0, 0))
  have bw := k1.trans (k2.mono k1.size)
  obtain ⟨W, hW⟩ : ∃ W, W = (w.alloc (.cells #[.int .i64 (fc : Int), .int .i64 (ad : Int), .int .i64 (q : Int), .slice vs vn vc, .int .i64 rto] 32 (0, 0))).alloc (.cells #[.int .u8 (fc : Int)] 5 (0, 0)) := ⟨_, rfl⟩
  have ho : OwnV w.heap.size W (.slice (some ⟨w.heap.size + 1, 0, none⟩) 1 1) [fc] := by
    refine ⟨rfl, .inr ⟨w.heap.size + 1, 1, #[.int .u8 (fc : Int)], rfl, Nat.le_succ _, ?_, Nat.le_refl _, by unfold maxLen; omega, rfl, rfl⟩⟩
    have := heap_alloc_new (w.alloc (.cells #[.int .i64 (fc : Int), .int .i64 (ad : Int), .int .i64 (q : Int), .slice vs vn vc, .int .i64 rto] 32 (0, 0))) (.cells #[.int .u8 (fc : Int)] 5 (0, 0))
    rw [World.size_alloc] at this
    rw [hW]
    exact this
  have X0 := Lib.hid (show W.heap[w.heap.size]? = some (.cells #[.int .i64 (fc : Int), .int .i64 (ad : Int), .int .i64 (q : Int), .slice vs vn vc, .int .i64 rto] 32 (0, 0)) by rw [hW]; exact low_of k2 (heap_alloc_new w (.cells #[.int .i64 (fc : Int), .int .i64 (ad : Int), .int .i64 (q : Int), .slice vs vn vc, .int .i64 rto] 32 (0, 0))))
  rw [← hW] at bw
  have B0 := Lib.hid bw
  have WD := word14_any w.heap.size _ [fc] ad W bw.size ho had (by simp)
  have HW := Lib.hid hW
  have W1 := Lib.hid WD
  clear hP hr hh hft k1 k2 bw hW ho WD hk
  go_enter Try.func46, Try.ntmps46
  go_wp2_with fail
  rw [← HW.out]
  refine W1.out.mono ?_
  rintro e w1 ⟨v1, rfl, o1, z1, frm, ob1⟩
  have x1 : w1.heap[w.heap.size]? = some (.cells #[.int .i64 (fc : Int), .int .i64 (ad : Int), .int .i64 (q : Int), .slice vs vn vc, .int .i64 rto] 32 (0, 0)) := by
    refine (frm _ (by have := blk_lt X0.out; omega) ?_).trans X0.out
    simp [Value.ownBlock]
  have B1 := Lib.hid (B0.out.trans (z1.mono (Nat.le_refl _)))
  obtain ⟨c0, c1, c2, c3, c4⟩ := cells5 x1
  have WD2 := word14_any w.heap.size v1 ([fc] ++ wb [ad]) q w1 B1.out.size o1 hqq (by simp [wb_len])
  have W2 := Lib.hid WD2
  have f5 : ((fc : Int) == 5) = false := by simp; omega
  have f6 : ((fc : Int) == 6) = false := by simp; omega
  have f22 : ((fc : Int) == 22) = false := by simp; omega
  have f15 : ((fc : Int) == 15) = false := by simp; omega
  have f16 : ((fc : Int) == 16) = false := by simp; omega
  have f23 : ((fc : Int) == 23) = false := by simp; omega
  have X1 := Lib.hid x1
  have OB := Lib.hid ob1
  clear h15 WD2 x1 o1 z1 frm ob1
  go_wp2_with fail
  refine W2.out.mono ?_
  rintro e w2 ⟨v2, rfl, o2, z2, frm, ob2⟩
  have x2 : w2.heap[w.heap.size]? = some (.cells #[.int .i64 (fc : Int), .int .i64 (ad : Int), .int .i64 (q : Int), .slice vs vn vc, .int .i64 rto] 32 (0, 0)) := by
    refine (frm _ (by have := blk_lt X1.out; omega) ?_).trans X1.out
    intro e
    rcases OB.out _ e with h | h
    · simp [Value.ownBlock] at h
    · have := blk_lt X0.out; omega
  have B2 := Lib.hid (B1.out.trans z2)
  have O2 := Lib.hid o2
  obtain ⟨c0, c1, c2, c3, c4⟩ := cells5 x2
  clear o2 z2 frm ob2 x2
  go_wp2_with fail
  exact FIN.out _ _ O2.out B2.out
end Go.Proofs.Ytdolgpogjnfpkaa
/- The document's bytes of a request: what begins with Fc. -/
namespace Go.Proofs.Ytdolgpogjnfpkaa
set_option linter.unusedVariables false
set_option linter.unusedSimpArgs false
open Go.ChangeShapes Go.WideShapes Go.ChangeAt Go.RowKit

theorem putR_5 {r : Rq} (hh : has (fo r.fc) r = true) (h : r.fc = 5) : putR (fo r.fc) r = [r.fc.toNat] ++ wb [r.ad.toNat] ++ wb [65280 * r.V.getD 0 0] := by
  unfold putR putN
  rw [h]
  simp [fo, formOf]
theorem putR_6 {r : Rq} (hh : has (fo r.fc) r = true) (h : r.fc = 6 ∨ r.fc = 22) : putR (fo r.fc) r = [r.fc.toNat] ++ wb [r.ad.toNat] ++ wb r.V := by
  unfold putR putN
  rcases h with e | e <;> rw [e] <;> simp [fo, formOf]
set_option maxRecDepth 100000 in
set_option maxHeartbeats 8000000 in
theorem bytes5_any (r : Rq) (w : World) (hr : r.ok w) (hk : formOf r.fc = some (fo r.fc)) (hh : has (fo r.fc) r = true) (h15 : r.fc = 5) : Calls Try.prog 46 #[rv r] w (OutP w (putR (fo r.fc) r)) := by
  rw [putR_5 hh h15]
  obtain ⟨P, hP⟩ : ∃ P, P = (OutP w ([r.fc.toNat] ++ wb [r.ad.toNat] ++ wb [65280 * r.V.getD 0 0]) : Ending → World → Prop) := ⟨_, rfl⟩
  rw [← hP]
  have HP := Lib.hid hP
  obtain ⟨hf1, hf2, hq1, hq2⟩ := has_facts hk hh
  have hft := fit_of hh
  have harg := hr.arg
  have hV : r.V.length = 1 ∧ allB r.V = true := by
    have h5 : fo r.fc = ⟨false, true, true, 0, 1, 1, false, false⟩ := by rw [h15]; rfl
    rw [h5] at hft
    have := hft.1.vle
    have := hft.1.vmo
    exact ⟨by simp at *; omega, hft.1.bi rfl⟩
  obtain ⟨fc, ad, q, vs, vn, vc, V, rto⟩ := r
  simp only at hf1 hf2 hq1 hq2 hft h15 HP harg hV
  obtain ⟨fc, rfl⟩ : ∃ k : Nat, fc = (k : Int) := ⟨fc.toNat, by omega⟩
  obtain ⟨ad, rfl⟩ : ∃ k : Nat, ad = (k : Int) := ⟨ad.toNat, by omega⟩
  obtain ⟨q, rfl⟩ : ∃ k : Nat, q = (k : Int) := ⟨q.toNat, by omega⟩
  have had : ad < 65536 := by omega
  have hqq : q < 65536 := by omega
  simp only [Int.toNat_natCast] at HP
  simp only [rv]
  have i0 : IntKind.u8.wrap (fc : Int) = (fc : Int) := by simp [IntKind.wrap, IntKind.bits, IntKind.signed]; omega
  have FIN : Hid (∀ W' v L, OwnV w.heap.size W' v (fc :: L) → (∀ b ∈ fc :: L, b < 256) → (fc :: L).length ≤ 300 → Below w.heap.size w W' → fc :: L = [fc] ++ wb [ad] ++ wb [65280 * V.getD 0 0] → P (.returned v) W') := Lib.hid (fun W' v L h1 h2 h3 h4 h5 => by
    rw [HP.out, ← h5]; exact ⟨v, rfl, h1, h4⟩)
  have k1 := alloc_bq w (.cells #[.int .i64 (fc : Int), .int .i64 (ad : Int), .int .i64 (q : Int), .slice vs vn vc, .int .i64 rto] 32 (0, 0))
  have k2 := alloc_bq (w.alloc (.cells #[.int .i64 (fc : Int), .int .i64 (ad : Int), .int .i64 (q : Int), .slice vs vn vc, .int .i64 rto] 32 (0, 0))) (.cells #[.int .u8 (fc : Int)] 5 (0, 0))
  have bw := k1.trans (k2.mono k1.size)
  obtain ⟨W, hW⟩ : ∃ W, W = (w.alloc (.cells #[.int .i64 (fc : Int), .int .i64 (ad : Int), .int .i64 (q : Int), .slice vs vn vc, .int .i64 rto] 32 (0, 0))).alloc (.cells #[.int .u8 (fc : Int)] 5 (0, 0)) := ⟨_, rfl⟩
  have ho : OwnV w.heap.size W (.slice (some ⟨w.heap.size + 1, 0, none⟩) 1 1) [fc] := by
    refine ⟨rfl, .inr ⟨w.heap.size + 1, 1, #[.int .u8 (fc : Int)], rfl, Nat.le_succ _, ?_, Nat.le_refl _, by unfold maxLen; omega, rfl, rfl⟩⟩
    have := heap_alloc_new (w.alloc (.cells #[.int .i64 (fc : Int), .int .i64 (ad : Int), .int .i64 (q : Int), .slice vs vn vc, .int .i64 rto] 32 (0, 0))) (.cells #[.int .u8 (fc : Int)] 5 (0, 0))
    rw [World.size_alloc] at this
    rw [hW]
    exact this
  have X0 := Lib.hid (show W.heap[w.heap.size]? = some (.cells #[.int .i64 (fc : Int), .int .i64 (ad : Int), .int .i64 (q : Int), .slice vs vn vc, .int .i64 rto] 32 (0, 0)) by rw [hW]; exact low_of k2 (heap_alloc_new w (.cells #[.int .i64 (fc : Int), .int .i64 (ad : Int), .int .i64 (q : Int), .slice vs vn vc, .int .i64 rto] 32 (0, 0))))
  rw [← hW] at bw
  have B0 := Lib.hid bw
  have WD := word14_any w.heap.size _ [fc] ad W bw.size ho had (by simp)
  have HW := Lib.hid hW
  have W1 := Lib.hid WD
  have HARG := Lib.hid harg
  have H15 := Lib.hid h15
  clear hP hr hh hft k1 k2 bw hW ho WD hk harg h15
  go_enter Try.func46, Try.ntmps46
  go_wp2_with fail
  rw [← HW.out]
  refine W1.out.mono ?_
  rintro e w1 ⟨v1, rfl, o1, z1, frm, ob1⟩
  have x1 : w1.heap[w.heap.size]? = some (.cells #[.int .i64 (fc : Int), .int .i64 (ad : Int), .int .i64 (q : Int), .slice vs vn vc, .int .i64 rto] 32 (0, 0)) := by
    refine (frm _ (by have := blk_lt X0.out; omega) ?_).trans X0.out
    simp [Value.ownBlock]
  have B1 := Lib.hid (B0.out.trans (z1.mono (Nat.le_refl _)))
  obtain ⟨c0, c1, c2, c3, c4⟩ := cells5 x1
  have h15 := H15.out
  have f5 : ((fc : Int) == 5) = true := by simp; omega
  obtain ⟨b, off, rfl, hc0⟩ := (HARG.out.row.below B1.out).row 0 (by have := HARG.out.row.ln; omega)
  rw [Nat.add_zero] at hc0
  have hx := allB_getD hV.2 0
  generalize V.getD 0 0 = x at hc0 hx FIN
  have WD2 : Calls Try.prog 68 #[v1, .int .i64 (65280 * (x : Int))] w1 (GrewP w.heap.size v1 w1 ([fc] ++ wb [ad] ++ wb [65280 * x])) := by
    have := word14_any w.heap.size v1 ([fc] ++ wb [ad]) (65280 * x) w1 B1.out.size o1 (by omega) (by simp [wb_len])
    rwa [show ((65280 * x : Nat) : Int) = 65280 * (x : Int) by omega] at this
  have W2 := Lib.hid WD2
  have i3 : IntKind.i64.wrap (x : Int) = (x : Int) := IntWalk.i64_in _ (by omega)
  have s3 : wrap64 (65280 * (x : Int)) = 65280 * (x : Int) := by unfold wrap64; omega
  have d0 : (0 : Int) < (vn : Int) := by have := HARG.out.row.ln; omega
  clear h15 WD2 x1 o1 z1 frm ob1 hV
  go_wp2_with fail
  refine W2.out.mono ?_
  rintro e w2 ⟨v2, rfl, o2, z2, frm, ob2⟩
  have B2 := Lib.hid (B1.out.trans z2)
  have O2 := Lib.hid o2
  clear o2 z2 frm ob2
  go_wp2_with fail
  refine FIN.out _ _ (wb [ad] ++ wb [65280 * x]) (by have := O2.out; rwa [List.append_assoc] at this) ?_ (by simp [wb_len]) B2.out (by simp)
  intro b hb
  simp only [List.mem_cons, List.mem_append] at hb
  rcases hb with e | e | e
  · omega
  · exact wb_by1 had b e
  · exact wb_by1 (by omega) b e
set_option maxRecDepth 100000 in
set_option maxHeartbeats 8000000 in
theorem bytes6_any (r : Rq) (w : World) (hr : r.ok w) (hk : formOf r.fc = some (fo r.fc)) (hh : has (fo r.fc) r = true) (h15 : r.fc = 6 ∨ r.fc = 22) : Calls Try.prog 46 #[rv r] w (OutP w (putR (fo r.fc) r)) := by
  rw [putR_6 hh h15]
  obtain ⟨P, hP⟩ : ∃ P, P = (OutP w ([r.fc.toNat] ++ wb [r.ad.toNat] ++ wb r.V) : Ending → World → Prop) := ⟨_, rfl⟩
  rw [← hP]
  have HP := Lib.hid hP
  obtain ⟨hf1, hf2, hq1, hq2⟩ := has_facts hk hh
  have hft := fit_of hh
  have harg := hr.arg
  have hV : r.V.length ≤ 2 := by
    have := hft.1.vmo
    rcases h15 with h | h
    · have h5 : fo r.fc = ⟨false, true, false, 0, 1, 1, false, false⟩ := by rw [h]; rfl
      rw [h5] at this; simp at this; omega
    · have h5 : fo r.fc = ⟨false, true, false, 0, 2, 2, false, false⟩ := by rw [h]; rfl
      rw [h5] at this; simp at this; omega
  obtain ⟨fc, ad, q, vs, vn, vc, V, rto⟩ := r
  simp only at hf1 hf2 hq1 hq2 hft h15 HP harg hV
  obtain ⟨fc, rfl⟩ : ∃ k : Nat, fc = (k : Int) := ⟨fc.toNat, by omega⟩
  obtain ⟨ad, rfl⟩ : ∃ k : Nat, ad = (k : Int) := ⟨ad.toNat, by omega⟩
  obtain ⟨q, rfl⟩ : ∃ k : Nat, q = (k : Int) := ⟨q.toNat, by omega⟩
  have had : ad < 65536 := by omega
  have hqq : q < 65536 := by omega
  simp only [Int.toNat_natCast] at HP
  simp only [rv]
  have i0 : IntKind.u8.wrap (fc : Int) = (fc : Int) := by simp [IntKind.wrap, IntKind.bits, IntKind.signed]; omega
  have FIN : Hid (∀ W' v L, OwnV w.heap.size W' v (fc :: L) → (∀ b ∈ fc :: L, b < 256) → (fc :: L).length ≤ 300 → Below w.heap.size w W' → fc :: L = [fc] ++ wb [ad] ++ wb V → P (.returned v) W') := Lib.hid (fun W' v L h1 h2 h3 h4 h5 => by
    rw [HP.out, ← h5]; exact ⟨v, rfl, h1, h4⟩)
  have k1 := alloc_bq w (.cells #[.int .i64 (fc : Int), .int .i64 (ad : Int), .int .i64 (q : Int), .slice vs vn vc, .int .i64 rto] 32 (0, 0))
  have k2 := alloc_bq (w.alloc (.cells #[.int .i64 (fc : Int), .int .i64 (ad : Int), .int .i64 (q : Int), .slice vs vn vc, .int .i64 rto] 32 (0, 0))) (.cells #[.int .u8 (fc : Int)] 5 (0, 0))
  have bw := k1.trans (k2.mono k1.size)
  obtain ⟨W, hW⟩ : ∃ W, W = (w.alloc (.cells #[.int .i64 (fc : Int), .int .i64 (ad : Int), .int .i64 (q : Int), .slice vs vn vc, .int .i64 rto] 32 (0, 0))).alloc (.cells #[.int .u8 (fc : Int)] 5 (0, 0)) := ⟨_, rfl⟩
  have ho : OwnV w.heap.size W (.slice (some ⟨w.heap.size + 1, 0, none⟩) 1 1) [fc] := by
    refine ⟨rfl, .inr ⟨w.heap.size + 1, 1, #[.int .u8 (fc : Int)], rfl, Nat.le_succ _, ?_, Nat.le_refl _, by unfold maxLen; omega, rfl, rfl⟩⟩
    have := heap_alloc_new (w.alloc (.cells #[.int .i64 (fc : Int), .int .i64 (ad : Int), .int .i64 (q : Int), .slice vs vn vc, .int .i64 rto] 32 (0, 0))) (.cells #[.int .u8 (fc : Int)] 5 (0, 0))
    rw [World.size_alloc] at this
    rw [hW]
    exact this
  have X0 := Lib.hid (show W.heap[w.heap.size]? = some (.cells #[.int .i64 (fc : Int), .int .i64 (ad : Int), .int .i64 (q : Int), .slice vs vn vc, .int .i64 rto] 32 (0, 0)) by rw [hW]; exact low_of k2 (heap_alloc_new w (.cells #[.int .i64 (fc : Int), .int .i64 (ad : Int), .int .i64 (q : Int), .slice vs vn vc, .int .i64 rto] 32 (0, 0))))
  rw [← hW] at bw
  have B0 := Lib.hid bw
  have WD := word14_any w.heap.size _ [fc] ad W bw.size ho had (by simp)
  have HW := Lib.hid hW
  have W1 := Lib.hid WD
  have HARG := Lib.hid harg
  have H15 := Lib.hid h15
  clear hP hr hh hft k1 k2 bw hW ho WD hk harg h15
  go_enter Try.func46, Try.ntmps46
  go_wp2_with fail
  rw [← HW.out]
  refine W1.out.mono ?_
  rintro e w1 ⟨v1, rfl, o1, z1, frm, ob1⟩
  have x1 : w1.heap[w.heap.size]? = some (.cells #[.int .i64 (fc : Int), .int .i64 (ad : Int), .int .i64 (q : Int), .slice vs vn vc, .int .i64 rto] 32 (0, 0)) := by
    refine (frm _ (by have := blk_lt X0.out; omega) ?_).trans X0.out
    simp [Value.ownBlock]
  have B1 := Lib.hid (B0.out.trans (z1.mono (Nat.le_refl _)))
  obtain ⟨c0, c1, c2, c3, c4⟩ := cells5 x1
  have h15 := H15.out
  rcases h15 with h15 | h15
  · have h15 : fc = 6 := by omega
    have f5 : ((fc : Int) == 5) = false := by simp; omega
    have f6 : ((fc : Int) == 6) = true := by simp; omega
    have WO := Lib.hid (words14_any vs vn vc V w1 (HARG.out.row.below B1.out) (by have := HARG.out.row.ln; omega))
    have O1 := Lib.hid o1
    have HV := Lib.hid hV
    clear h15 x1 o1 z1 frm ob1 hV
    go_wp2_with fail
    refine WO.out.mono ?_
    rintro e w2 ⟨v2, rfl, o2, z2⟩
    obtain ⟨a2, d2, hv2, ab2, _⟩ := OwnV.argB o2 (wb_by HARG.out.row.by')
    subst hv2
    have A2 := Lib.hid ab2
    have O2 := Lib.hid (O1.out.keep z2)
    have B2 := Lib.hid (B1.out.trans (z2.mono B1.out.size))
    have hl2 : (wb V).length ≤ 4 := by rw [wb_len]; have := HV.out; omega
    have HL2 := Lib.hid hl2
    clear o2 z2 ab2 hl2
    obtain ⟨m, hm⟩ : ∃ m, m = ([fc] ++ wb [ad]).length := ⟨_, rfl⟩
    have o2' : w2.ownsRow w.heap.size 5 1 v1 m (bv ([fc] ++ wb [ad])) := by rw [hm]; exact O2.out
    obtain ⟨va, vd, rfl⟩ := own_form o2'
    have OO := Lib.hid o2'
    have HMM := Lib.hid hm
    have hm3 : m = 3 := by rw [hm]; simp [wb_len]
    have HM3 := Lib.hid hm3
    obtain ⟨m2, hm2⟩ : ∃ m, m = (wb V).length := ⟨_, rfl⟩
    have A2' := Lib.hid (show ArgB w2 a2 m2 d2 (wb V) by rw [hm2]; exact A2.out)
    have HM2 := Lib.hid hm2
    rw [← hm2]
    clear o2' hm hm3 hm2
    go_wp2_with (at_builtin; refine wpList_append_bys rfl (.tmp 27) (.tmp 30) rfl w.heap.size _ B2.out.size _ m ([fc] ++ wb [ad]) rfl OO.out a2 m2 d2 (wb V) rfl A2'.out.row (fun e => (A2'.out.nil e).2) (by have := HL2.out; have := HM2.out; have := HM3.out; omega) ?_)
    intro v' w' ho' hg' _ hob
    have hbA : Below w.heap.size w w' := B2.out.grown hg' B2.out.size (fun q hq => (World.ownsRow.lt OO.out q hq).1)
    have FF : Hid (P (.returned v') w') := Lib.hid (by
      refine FIN.out _ _ (wb [ad] ++ wb V) ?_ ?_ (by have := HL2.out; simp [wb_len] at *; omega) hbA (by simp)
      · unfold OwnV
        have e : (fc :: (wb [ad] ++ wb V)).length = m + m2 := by have := HMM.out; have := HM2.out; simp at *; omega
        rw [e]
        exact ho'
      · intro b hb
        simp only [List.mem_cons, List.mem_append] at hb
        rcases hb with e | e | e
        · omega
        · exact wb_by1 had b e
        · exact wb_by HARG.out.row.by' b e)
    clear ho' hg' hob hbA
    go_wp2_with fail
    exact FF.out
  · have h15 : fc = 22 := by omega
    have f5 : ((fc : Int) == 5) = false := by simp; omega
    have f6 : ((fc : Int) == 6) = false := by simp; omega
    have f22 : ((fc : Int) == 22) = true := by simp; omega
    have WO := Lib.hid (words14_any vs vn vc V w1 (HARG.out.row.below B1.out) (by have := HARG.out.row.ln; omega))
    have O1 := Lib.hid o1
    have HV := Lib.hid hV
    clear h15 x1 o1 z1 frm ob1 hV
    go_wp2_with fail
    refine WO.out.mono ?_
    rintro e w2 ⟨v2, rfl, o2, z2⟩
    obtain ⟨a2, d2, hv2, ab2, _⟩ := OwnV.argB o2 (wb_by HARG.out.row.by')
    subst hv2
    have A2 := Lib.hid ab2
    have O2 := Lib.hid (O1.out.keep z2)
    have B2 := Lib.hid (B1.out.trans (z2.mono B1.out.size))
    have hl2 : (wb V).length ≤ 4 := by rw [wb_len]; have := HV.out; omega
    have HL2 := Lib.hid hl2
    clear o2 z2 ab2 hl2
    obtain ⟨m, hm⟩ : ∃ m, m = ([fc] ++ wb [ad]).length := ⟨_, rfl⟩
    have o2' : w2.ownsRow w.heap.size 5 1 v1 m (bv ([fc] ++ wb [ad])) := by rw [hm]; exact O2.out
    obtain ⟨va, vd, rfl⟩ := own_form o2'
    have OO := Lib.hid o2'
    have HMM := Lib.hid hm
    have hm3 : m = 3 := by rw [hm]; simp [wb_len]
    have HM3 := Lib.hid hm3
    obtain ⟨m2, hm2⟩ : ∃ m, m = (wb V).length := ⟨_, rfl⟩
    have A2' := Lib.hid (show ArgB w2 a2 m2 d2 (wb V) by rw [hm2]; exact A2.out)
    have HM2 := Lib.hid hm2
    rw [← hm2]
    clear o2' hm hm3 hm2
    go_wp2_with (at_builtin; refine wpList_append_bys rfl (.tmp 27) (.tmp 30) rfl w.heap.size _ B2.out.size _ m ([fc] ++ wb [ad]) rfl OO.out a2 m2 d2 (wb V) rfl A2'.out.row (fun e => (A2'.out.nil e).2) (by have := HL2.out; have := HM2.out; have := HM3.out; omega) ?_)
    intro v' w' ho' hg' _ hob
    have hbA : Below w.heap.size w w' := B2.out.grown hg' B2.out.size (fun q hq => (World.ownsRow.lt OO.out q hq).1)
    have FF : Hid (P (.returned v') w') := Lib.hid (by
      refine FIN.out _ _ (wb [ad] ++ wb V) ?_ ?_ (by have := HL2.out; simp [wb_len] at *; omega) hbA (by simp)
      · unfold OwnV
        have e : (fc :: (wb [ad] ++ wb V)).length = m + m2 := by have := HMM.out; have := HM2.out; simp at *; omega
        rw [e]
        exact ho'
      · intro b hb
        simp only [List.mem_cons, List.mem_append] at hb
        rcases hb with e | e | e
        · omega
        · exact wb_by1 had b e
        · exact wb_by HARG.out.row.by' b e)
    clear ho' hg' hob hbA
    go_wp2_with fail
    exact FF.out
end Go.Proofs.Ytdolgpogjnfpkaa
/- The document's bytes: 15. -/
namespace Go.Proofs.Ytdolgpogjnfpkaa
set_option linter.unusedVariables false
set_option linter.unusedSimpArgs false
open Go.ChangeShapes Go.WideShapes Go.ChangeAt Go.RowKit

theorem putR_15 {r : Rq} (hh : has (fo r.fc) r = true) (h : r.fc = 15) : putR (fo r.fc) r = [r.fc.toNat] ++ wb [r.ad.toNat] ++ wb [r.q.toNat] ++ ((bits r.V).length :: bits r.V) := by
  unfold putR putN
  rw [h]
  simp [fo, formOf]
set_option maxRecDepth 100000 in
set_option maxHeartbeats 8000000 in
theorem bytes15_any (r : Rq) (w : World) (hr : r.ok w) (hk : formOf r.fc = some (fo r.fc)) (hh : has (fo r.fc) r = true) (h15 : r.fc = 15) : Calls Try.prog 46 #[rv r] w (OutP w (putR (fo r.fc) r)) := by
  rw [putR_15 hh h15]
  obtain ⟨P, hP⟩ : ∃ P, P = (OutP w ([r.fc.toNat] ++ wb [r.ad.toNat] ++ wb [r.q.toNat] ++ ((bits r.V).length :: bits r.V)) : Ending → World → Prop) := ⟨_, rfl⟩
  rw [← hP]
  have HP := Lib.hid hP
  obtain ⟨hf1, hf2, hq1, hq2⟩ := has_facts hk hh
  have hft := fit_of hh
  have harg := hr.arg
  have hV : r.V.length ≤ 1968 := by
    have := hft.1.vmo
    have h5 : fo r.fc = ⟨false, true, true, 1968, 1, 1968, true, false⟩ := by rw [h15]; rfl
    rw [h5] at this; simp at this; omega
  obtain ⟨fc, ad, q, vs, vn, vc, V, rto⟩ := r
  simp only at hf1 hf2 hq1 hq2 hft h15 HP harg hV
  obtain ⟨fc, rfl⟩ : ∃ k : Nat, fc = (k : Int) := ⟨fc.toNat, by omega⟩
  obtain ⟨ad, rfl⟩ : ∃ k : Nat, ad = (k : Int) := ⟨ad.toNat, by omega⟩
  obtain ⟨q, rfl⟩ : ∃ k : Nat, q = (k : Int) := ⟨q.toNat, by omega⟩
  have had : ad < 65536 := by omega
  have hqq : q < 65536 := by omega
  simp only [Int.toNat_natCast] at HP
  simp only [rv]
  have i0 : IntKind.u8.wrap (fc : Int) = (fc : Int) := by simp [IntKind.wrap, IntKind.bits, IntKind.signed]; omega
  have FIN : Hid (∀ W' v L, OwnV w.heap.size W' v (fc :: L) → (∀ b ∈ fc :: L, b < 256) → (fc :: L).length ≤ 300 → Below w.heap.size w W' → fc :: L = [fc] ++ wb [ad] ++ wb [q] ++ ((bits V).length :: bits V) → P (.returned v) W') := Lib.hid (fun W' v L h1 h2 h3 h4 h5 => by
    rw [HP.out, ← h5]; exact ⟨v, rfl, h1, h4⟩)
  have k1 := alloc_bq w (.cells #[.int .i64 (fc : Int), .int .i64 (ad : Int), .int .i64 (q : Int), .slice vs vn vc, .int .i64 rto] 32 (0, 0))
  have k2 := alloc_bq (w.alloc (.cells #[.int .i64 (fc : Int), .int .i64 (ad : Int), .int .i64 (q : Int), .slice vs vn vc, .int .i64 rto] 32 (0, 0))) (.cells #[.int .u8 (fc : Int)] 5 (0, 0))
  have bw := k1.trans (k2.mono k1.size)
  obtain ⟨W, hW⟩ : ∃ W, W = (w.alloc (.cells #[.int .i64 (fc : Int), .int .i64 (ad : Int), .int .i64 (q : Int), .slice vs vn vc, .int .i64 rto] 32 (0, 0))).alloc (.cells #[.int .u8 (fc : Int)] 5 (0, 0)) := ⟨_, rfl⟩
  have ho : OwnV w.heap.size W (.slice (some ⟨w.heap.size + 1, 0, none⟩) 1 1) [fc] := by
    refine ⟨rfl, .inr ⟨w.heap.size + 1, 1, #[.int .u8 (fc : Int)], rfl, Nat.le_succ _, ?_, Nat.le_refl _, by unfold maxLen; omega, rfl, rfl⟩⟩
    have := heap_alloc_new (w.alloc (.cells #[.int .i64 (fc : Int), .int .i64 (ad : Int), .int .i64 (q : Int), .slice vs vn vc, .int .i64 rto] 32 (0, 0))) (.cells #[.int .u8 (fc : Int)] 5 (0, 0))
    rw [World.size_alloc] at this
    rw [hW]
    exact this
  have X0 := Lib.hid (show W.heap[w.heap.size]? = some (.cells #[.int .i64 (fc : Int), .int .i64 (ad : Int), .int .i64 (q : Int), .slice vs vn vc, .int .i64 rto] 32 (0, 0)) by rw [hW]; exact low_of k2 (heap_alloc_new w (.cells #[.int .i64 (fc : Int), .int .i64 (ad : Int), .int .i64 (q : Int), .slice vs vn vc, .int .i64 rto] 32 (0, 0))))
  rw [← hW] at bw
  have B0 := Lib.hid bw
  have WD := word14_any w.heap.size _ [fc] ad W bw.size ho had (by simp)
  have HW := Lib.hid hW
  have W1 := Lib.hid WD
  have HARG := Lib.hid harg
  have HV := Lib.hid hV
  have H15 := Lib.hid h15
  clear hP hr hh hft k1 k2 bw hW ho WD hk harg hV h15
  go_enter Try.func46, Try.ntmps46
  go_wp2_with fail
  rw [← HW.out]
  refine W1.out.mono ?_
  rintro e w1 ⟨v1, rfl, o1, z1, frm, ob1⟩
  have x1 : w1.heap[w.heap.size]? = some (.cells #[.int .i64 (fc : Int), .int .i64 (ad : Int), .int .i64 (q : Int), .slice vs vn vc, .int .i64 rto] 32 (0, 0)) := by
    refine (frm _ (by have := blk_lt X0.out; omega) ?_).trans X0.out
    simp [Value.ownBlock]
  have B1 := Lib.hid (B0.out.trans (z1.mono (Nat.le_refl _)))
  obtain ⟨c0, c1, c2, c3, c4⟩ := cells5 x1
  have WD2 := word14_any w.heap.size v1 ([fc] ++ wb [ad]) q w1 B1.out.size o1 hqq (by simp [wb_len])
  have W2 := Lib.hid WD2
  have h15 : fc = 15 := by have := H15.out; omega
  have f5 : ((fc : Int) == 5) = false := by simp; omega
  have f6 : ((fc : Int) == 6) = false := by simp; omega
  have f22 : ((fc : Int) == 22) = false := by simp; omega
  have f15 : ((fc : Int) == 15) = true := by simp; omega
  have X1 := Lib.hid x1
  have OB := Lib.hid ob1
  clear h15 WD2 x1 o1 z1 frm ob1
  go_wp2_with fail
  refine W2.out.mono ?_
  rintro e w2 ⟨v2, rfl, o2, z2, frm, ob2⟩
  have x2 : w2.heap[w.heap.size]? = some (.cells #[.int .i64 (fc : Int), .int .i64 (ad : Int), .int .i64 (q : Int), .slice vs vn vc, .int .i64 rto] 32 (0, 0)) := by
    refine (frm _ (by have := blk_lt X1.out; omega) ?_).trans X1.out
    intro e
    rcases OB.out _ e with h | h
    · simp [Value.ownBlock] at h
    · have := blk_lt X0.out; omega
  have B2 := Lib.hid (B1.out.trans z2)
  have O2 := Lib.hid o2
  obtain ⟨c0, c1, c2, c3, c4⟩ := cells5 x2
  clear o2 z2 frm x2
  have BD := Lib.hid (bitsD_any vs vn vc V w2 (HARG.out.row.below B2.out) (by have := HV.out; have := HARG.out.row.ln; omega))
  go_wp2_with fail
  refine BD.out.mono ?_
  rintro e w3 ⟨g, rfl, hg3, hs3, z3⟩
  have hb8 := bits_len V
  obtain ⟨k, hk⟩ : ∃ k, k = (bits V).length := ⟨_, rfl⟩
  have hk2 : k ≤ 246 := by have := HV.out; omega
  rw [← hk]
  have BY3 : Hid (Bys w3 (some ⟨g, 0, none⟩) k (bits V)) := Lib.hid (by rw [hk]; exact bys_block (t := 5) (m := (0, 0)) (bits V) (by unfold maxLen; omega) (bits_by V) hg3)
  obtain ⟨m, hm⟩ : ∃ m, m = ([fc] ++ wb [ad] ++ wb [q]).length := ⟨_, rfl⟩
  have o3 : w3.ownsRow w.heap.size 5 1 v2 m (bv ([fc] ++ wb [ad] ++ wb [q])) := by rw [hm]; exact O2.out.keep z3
  have hm5 : m = 5 := by rw [hm]; simp [wb_len]
  have hgn : ∀ b', v2.ownBlock = some b' → b' ≠ g := by
    intro b' hb' e
    have := (O2.out.blk b' hb').2
    omega
  obtain ⟨va, vd, rfl⟩ := own_form o3
  have O3 := Lib.hid o3
  have B3 := Lib.hid (B2.out.trans (z3.mono B2.out.size))
  have GL := Lib.hid (blk_lt hg3)
  have HK := Lib.hid hk
  have HG3 := Lib.hid hg3
  have HK2 := Lib.hid hk2
  have HM5 := Lib.hid hm5
  have HGN := Lib.hid hgn
  have c8 : IntKind.u8.wrap (k : Int) = (k : Int) := by simp [IntKind.wrap, IntKind.bits, IntKind.signed]; omega
  have OA : Hid ((w3.alloc (.cells #[.int .u8 (k : Int)] 5 (0, 0))).ownsRow w.heap.size 5 1 (.slice va m vd) m (bv ([fc] ++ wb [ad] ++ wb [q]))) := Lib.hid (own_keep o3 (alloc_bq _ _))
  have BYA : Hid (Bys (w3.alloc (.cells #[.int .u8 (k : Int)] 5 (0, 0))) (some ⟨w3.heap.size, 0, none⟩) 1 [k]) := Lib.hid (bys_block [k] (by simp [maxLen]) (by intro b hb; simp at hb; omega) (by rw [heap_alloc_new]; simp [bv]) (t := 5) (m := (0, 0)))
  have BYB := Lib.hid (BY3.out.below (alloc_bq w3 (.cells #[.int .u8 (k : Int)] 5 (0, 0))))
  have BA := Lib.hid (B3.out.alloc (o := .cells #[.int .u8 (k : Int)] 5 (0, 0)) B3.out.size)
  clear hk hm hm5 hgn hg3 hs3 z3 o3 hb8 c0 c1 c2 c3 c4
  go_wp2_with (at_builtin; refine wpList_append_bys rfl (.tmp 43) (.tmp 47) rfl w.heap.size _ BA.out.size _ m ([fc] ++ wb [ad] ++ wb [q]) rfl OA.out (some ⟨w3.heap.size, 0, none⟩) 1 1 [k] rfl BYA.out (fun e => by cases e) (by have := HM5.out; omega) ?_)
  intro v4 w4 ho4 hg4 _ hob4
  have w4g : w4.heap[g]? = some (.cells (bv (bits V)).toArray 5 (0, 0)) := by
    refine (hg4.block g (by have := GL.out; simp; omega) (fun e => HGN.out g e.symm rfl)).trans ?_
    exact (heap_alloc_old _ _ GL.out).trans HG3.out
  have BYC : Hid (Bys w4 (some ⟨g, 0, none⟩) k (bits V)) := Lib.hid (by rw [HK.out]; exact bys_block (t := 5) (m := (0, 0)) (bits V) (by unfold maxLen; have := HK.out; omega) (bits_by V) w4g)
  have B4 := Lib.hid (BA.out.grown hg4 BA.out.size (fun q hq => (World.ownsRow.lt OA.out q hq).1))
  obtain ⟨va4, vd4, rfl⟩ := own_form ho4
  have O4 := Lib.hid ho4
  clear ho4 hg4 hob4 w4g
  go_wp2_with (at_builtin; refine wpList_append_bys rfl (.tmp 48) (.tmp 49) rfl w.heap.size _ B4.out.size _ (m + 1) ([fc] ++ wb [ad] ++ wb [q] ++ [k]) rfl O4.out (some ⟨g, 0, none⟩) k k (bits V) rfl BYC.out (fun e => by cases e) (by have := HM5.out; omega) ?_)
  intro v5 w5 ho5 hg5 _ hob5
  have B5 : Below w.heap.size w w5 := B4.out.grown hg5 B4.out.size (fun q hq => (World.ownsRow.lt O4.out q hq).1)
  have FF : Hid (P (.returned v5) w5) := Lib.hid (by
    refine FIN.out _ _ (wb [ad] ++ wb [q] ++ [k] ++ bits V) ?_ ?_ (by have := HK.out; simp [wb_len] at *; omega) B5 (by rw [← HK.out]; simp)
    · unfold OwnV
      have e : (fc :: (wb [ad] ++ wb [q] ++ [k] ++ bits V)).length = m + 1 + k := by have := HK.out; have := HM5.out; simp [wb_len] at *; omega
      rw [e]
      have e2 : fc :: (wb [ad] ++ wb [q] ++ [k] ++ bits V) = [fc] ++ wb [ad] ++ wb [q] ++ [k] ++ bits V := by simp
      rw [e2]
      exact ho5
    · intro b hb
      simp only [List.mem_cons, List.mem_append] at hb
      rcases hb with e | ((e | e) | e) | e
      · omega
      · exact wb_by1 had b e
      · exact wb_by1 hqq b e
      · rcases e with e | e
        · omega
        · simp at e
      · exact bits_by V b e)
  clear ho5 hg5 hob5 B5
  go_wp2_with fail
  exact FF.out
end Go.Proofs.Ytdolgpogjnfpkaa
/- A region that draws its order: two appends, a call between them, a slice that is laid. -/
namespace Go.Proofs.Ytdolgpogjnfpkaa
set_option linter.unusedVariables false
set_option linter.unusedSimpArgs false
open Go.ChangeShapes Go.WideShapes Go.ChangeAt Go.RowKit

/-- Bytes, or nothing, behind a row that the call owns: as one step of a region that draws. -/
theorem step_append_bys {ops : Array Oper} {o : Oper} {ac : Act} {K : Act → World → Prop} {Q : Exit → Act → World → Prop} {E : Prop} (hgd : o.guard = none) (s x : Operand)
    (ho : o.op = .call { callee := .builtin .append, args := #[s, x], argTypes := #[33, 33] }) (B : Nat) (w : World) (hB : B ≤ w.heap.size) (v : Value) (n : Nat) (L : List Nat) (hs : ac.eval s = v)
    (hown : w.ownsRow B 5 1 v n (bv L)) (a : Option Addr) (len cap : Nat) (M : List Nat) (hx : ac.eval x = .slice a len cap) (hb : Bys w a len M) (hnil : a = none → cap = 0) (hle : n + len ≤ 100000000)
    (h : ∀ v' w', w'.ownsRow B 5 1 v' (n + len) (bv (L ++ M)) → w.grownBy w' v.ownBlock → (v'.ownBlock = v.ownBlock ∨ v'.ownBlock = some w.heap.size) → K (ac.put o.dst v') w') :
    if Region.wanted o (yielded ops ac.tmps) = true then Oper.wp Try.prog o ac w K Q else E := by
  have hw : Region.wanted o (yielded ops ac.tmps) = true := by simp [Region.wanted, hgd]
  rw [if_pos hw]
  obtain ⟨ti, hi, hz0, hz1, hz2⟩ := info_parts info5
  cases a with
  | none =>
    obtain rfl := hnil rfl
    have h0 : len = 0 := by
      rcases hb.at' with z | ⟨_, _, e, _⟩
      · exact z
      · cases e
    subst h0
    have hM := hb.of_zero
    subst hM
    have hrun := run_append_owned_none (P := Try.prog) (w := w) B 33 o.type 5 ti 1 Try.underlying33 hi _ n (bv L) hown
    unfold Oper.wp
    simp [execOp, ho, resolve, invoke, builtin, hs, hx, hrun, Result.andThen]
    exact h v w (by simpa using hown) ⟨rfl, rfl, rfl, Nat.le_refl _, fun _ _ _ => rfl⟩ (.inl rfl)
  | some ad =>
    have hc : ∀ j u, (bv M)[j]? = some u → w.cell? (ad.add j) = some u := by
      intro j u hu
      have hj : j < len := by
        have := (List.getElem?_eq_some_iff.1 hu).1
        rwa [bv_len, hb.ln] at this
      obtain ⟨b, off, ha, _, hcc⟩ := hb.pos (by omega)
      simp at ha
      subst ha
      rw [bv_get M j (by rw [hb.ln]; exact hj)] at hu
      rw [addr_add_none, ← hu]
      exact hcc j hj
    obtain ⟨v', w', hr, h2, h3, h4, h5⟩ := run_append_own_at (P := Try.prog) w B 33 o.type 5 ti (.int .u8 0) 1 1 Try.underlying33 hi hz0 hz1 hz2 rfl (by decide) v n (bv L) hown ad len cap (bv M) (by rw [bv_len, hb.ln]; omega) hc (bv_one _) (by unfold maxLen; omega) (by omega) hB
    rw [← bv_app] at h2
    unfold Oper.wp execOp
    simp only [ho, resolve, invoke, builtin, Sem.run_bind, Sem.run_pure, Result.andThen_ok, List.map_toArray, List.map_cons, List.map_nil, hs, hx, hr]
    exact h v' w' h2 h3 h5

/-- What lies below is as the call found it, and what w2 held is as it was, but for the row r. -/
def Kq (B : Nat) (w w2 : World) (r : Option Nat) (W : World) : Prop := Below B w W ∧ w2.heap.size ≤ W.heap.size ∧ (∀ k, k < w2.heap.size → some k ≠ r → (W.heap[k]? = w2.heap[k]?)) ∧ B ≤ w.heap.size
theorem Kq.refl {B : Nat} {w w2 : World} {r : Option Nat} (h : Below B w w2) (hB : B ≤ w.heap.size) : Kq B w w2 r w2 := ⟨h, Nat.le_refl _, fun _ _ _ => rfl, hB⟩
theorem Kq.le {B : Nat} {w w2 W : World} {r : Option Nat} (h : Kq B w w2 r W) : B ≤ W.heap.size := Nat.le_trans h.2.2.2 h.1.size
theorem Kq.drew {B : Nat} {w w2 W : World} {r : Option Nat} (h : Kq B w w2 r W) : Kq B w w2 r W.drew := ⟨h.1.drew, h.2.1, h.2.2.1, h.2.2.2⟩
theorem Kq.al {B : Nat} {w w2 W : World} {r : Option Nat} (o : Obj) (h : Kq B w w2 r W) : Kq B w w2 r (W.alloc o) :=
  ⟨h.1.alloc h.le _, by have := h.2.1; simp; omega, fun k hk hr => (heap_alloc_old _ _ (by have := h.2.1; omega)).trans (h.2.2.1 k hk hr), h.2.2.2⟩
theorem Kq.step {B : Nat} {w w2 W W' : World} {r : Option Nat} (h : Kq B w w2 r W) (z : Below W.heap.size W W') : Kq B w w2 r W' :=
  ⟨h.1.trans (z.mono h.le), Nat.le_trans h.2.1 z.size, fun k hk hr => (z.block k (by have := h.2.1; omega)).trans (h.2.2.1 k hk hr), h.2.2.2⟩
theorem Kq.at {B : Nat} {w w2 W : World} {r : Option Nat} (h : Kq B w w2 r W) {k : Nat} {o : Obj} (hk : w2.heap[k]? = some o) (hr : some k ≠ r) : W.heap[k]? = some o := (h.2.2.1 k (blk_lt hk) hr).trans hk
/-- A row of the call's own: the old one, or one that is newer than w2. -/
def Rwq (B : Nat) (w2 : World) (r : Option Nat) (W : World) (v : Value) (n : Nat) (L : List Nat) : Prop := W.ownsRow B 5 1 v n (bv L) ∧ (v.ownBlock = r ∨ ∃ g, v.ownBlock = some g ∧ w2.heap.size ≤ g)
theorem Rwq.step {B : Nat} {w2 W W' : World} {r : Option Nat} {v : Value} {n : Nat} {L : List Nat} (h : Rwq B w2 r W v n L) (z : Below W.heap.size W W') : Rwq B w2 r W' v n L := ⟨own_keep h.1 z, h.2⟩
theorem Rwq.al {B : Nat} {w2 W : World} {r : Option Nat} {v : Value} {n : Nat} {L : List Nat} (o : Obj) (h : Rwq B w2 r W v n L) : Rwq B w2 r (W.alloc o) v n L := h.step (alloc_bq _ _)
theorem Rwq.drew {B : Nat} {w2 W : World} {r : Option Nat} {v : Value} {n : Nat} {L : List Nat} (h : Rwq B w2 r W v n L) : Rwq B w2 r W.drew v n L := h.step (Below.refl _ _).drew
theorem Kq.grow {B : Nat} {w w2 W W' : World} {r : Option Nat} {v : Value} {n : Nat} {L : List Nat} (h : Kq B w w2 r W) (hr : Rwq B w2 r W v n L) (g : W.grownBy W' v.ownBlock) : Kq B w w2 r W' := by
  refine ⟨h.1.grown g h.le (fun q hq => (World.ownsRow.lt hr.1 q hq).1), Nat.le_trans h.2.1 g.size, fun k hk hn => (g.block k (by have := h.2.1; omega) ?_).trans (h.2.2.1 k hk hn), h.2.2.2⟩
  rcases hr.2 with e | ⟨q, e, hq⟩
  · rw [e]; exact hn
  · rw [e]; simp; omega
/-- An append of bytes onto it. -/
theorem step_one {ops : Array Oper} {o : Oper} {ac : Act} {K : Act → World → Prop} {Q : Exit → Act → World → Prop} {E : Prop} (hgd : o.guard = none) (s x : Operand)
    (ho : o.op = .call { callee := .builtin .append, args := #[s, x], argTypes := #[33, 33] }) {B : Nat} {w w2 W : World} {r : Option Nat} (hK : Kq B w w2 r W) (v : Value) (n : Nat) (L : List Nat) (hs : ac.eval s = v)
    (hr : Rwq B w2 r W v n L) (a : Option Addr) (len cap : Nat) (M : List Nat) (hx : ac.eval x = .slice a len cap) (hb : Bys W a len M) (hnil : a = none → cap = 0) (hle : n + len ≤ 100000000)
    (h : ∀ a' c' w', Kq B w w2 r w' → Rwq B w2 r w' (.slice a' (n + len) c') (n + len) (L ++ M) → W.grownBy w' v.ownBlock → K (ac.put o.dst (.slice a' (n + len) c')) w') :
    if Region.wanted o (yielded ops ac.tmps) = true then Oper.wp Try.prog o ac W K Q else E := by
  refine step_append_bys hgd s x ho B W hK.le v n L hs hr.1 a len cap M hx hb hnil hle ?_
  intro v' w' ho' hg hob
  obtain ⟨a', c', rfl⟩ := own_form ho'
  refine h a' c' w' (hK.grow hr hg) ⟨ho', ?_⟩ hg
  rcases hob with e | e
  · rw [e]; exact hr.2
  · exact .inr ⟨_, e, hK.2.1⟩
theorem ArgB.grow {w2 W w' : World} {a : Option Addr} {n d : Nat} {L : List Nat} {q : Option Nat} (A : ArgB W a n d L) (base : ∀ b off, a = some ⟨b, off, none⟩ → w2.heap.size ≤ b) (hq : ∀ g, q = some g → g < w2.heap.size) (g : W.grownBy w' q) : ArgB w' a n d L := by
  refine ⟨⟨A.row.ln, A.row.le, A.row.by', ?_⟩, A.nil, A.le, A.mx⟩
  rcases A.row.at' with z | ⟨b, off, e, hlt, hc⟩
  · exact .inl z
  · refine .inr ⟨b, off, e, Nat.lt_of_lt_of_le hlt g.size, fun i hi => ?_⟩
    rw [← hc i hi]
    refine World.cell?_of_block (g.block b hlt ?_)
    intro e2
    have h1 := hq b e2.symm
    have h2 := base b off e
    omega
theorem new_bys (k : Nat) (hk : k < 256) (W : World) : Bys (W.alloc (.cells #[.int .u8 (k : Int)] 5 (0, 0))) (some ⟨W.heap.size, 0, none⟩) 1 [k] :=
  bys_block [k] (by simp [maxLen]) (by intro b hb; simp at hb; omega) (by rw [heap_alloc_new]; simp [bv]) (t := 5) (m := (0, 0))
end Go.Proofs.Ytdolgpogjnfpkaa
/- The document's bytes: 16. -/
namespace Go.Proofs.Ytdolgpogjnfpkaa
set_option linter.unusedVariables false
set_option linter.unusedSimpArgs false
open Go.ChangeShapes Go.WideShapes Go.ChangeAt Go.RowKit

theorem putR_16 {r : Rq} (hh : has (fo r.fc) r = true) (h : r.fc = 16) : putR (fo r.fc) r = [r.fc.toNat] ++ wb [r.ad.toNat] ++ wb [r.q.toNat] ++ ((wb r.V).length :: wb r.V) := by
  unfold putR putN
  rw [h]
  simp [fo, formOf]
set_option maxRecDepth 100000 in
set_option maxHeartbeats 8000000 in
theorem bytes16_any (r : Rq) (w : World) (hr : r.ok w) (hk : formOf r.fc = some (fo r.fc)) (hh : has (fo r.fc) r = true) (h15 : r.fc = 16) : Calls Try.prog 46 #[rv r] w (OutP w (putR (fo r.fc) r)) := by
  rw [putR_16 hh h15]
  obtain ⟨P, hP⟩ : ∃ P, P = (OutP w ([r.fc.toNat] ++ wb [r.ad.toNat] ++ wb [r.q.toNat] ++ ((wb r.V).length :: wb r.V)) : Ending → World → Prop) := ⟨_, rfl⟩
  rw [← hP]
  have HP := Lib.hid hP
  obtain ⟨hf1, hf2, hq1, hq2⟩ := has_facts hk hh
  have hft := fit_of hh
  have harg := hr.arg
  have hV : r.V.length ≤ 123 := by
    have := hft.1.vmo
    have h5 : fo r.fc = ⟨false, true, false, 123, 1, 123, true, false⟩ := by rw [h15]; rfl
    rw [h5] at this; simp at this; omega
  obtain ⟨fc, ad, q, vs, vn, vc, V, rto⟩ := r
  simp only at hf1 hf2 hq1 hq2 hft h15 HP harg hV
  obtain ⟨fc, rfl⟩ : ∃ k : Nat, fc = (k : Int) := ⟨fc.toNat, by omega⟩
  obtain ⟨ad, rfl⟩ : ∃ k : Nat, ad = (k : Int) := ⟨ad.toNat, by omega⟩
  obtain ⟨q, rfl⟩ : ∃ k : Nat, q = (k : Int) := ⟨q.toNat, by omega⟩
  have had : ad < 65536 := by omega
  have hqq : q < 65536 := by omega
  simp only [rv]
  have i0 : IntKind.u8.wrap (fc : Int) = (fc : Int) := by simp [IntKind.wrap, IntKind.bits, IntKind.signed]; omega
  simp only [Int.toNat_natCast] at HP
  have FIN : Hid (∀ W' v L, OwnV w.heap.size W' v (fc :: L) → (∀ b ∈ fc :: L, b < 256) → (fc :: L).length ≤ 300 → Below w.heap.size w W' → fc :: L = [fc] ++ wb [ad] ++ wb [q] ++ ((wb V).length :: wb V) → P (.returned v) W') := Lib.hid (fun W' v L h1 h2 h3 h4 h5 => by
    rw [HP.out, ← h5]; exact ⟨v, rfl, h1, h4⟩)
  have k1 := alloc_bq w (.cells #[.int .i64 (fc : Int), .int .i64 (ad : Int), .int .i64 (q : Int), .slice vs vn vc, .int .i64 rto] 32 (0, 0))
  have k2 := alloc_bq (w.alloc (.cells #[.int .i64 (fc : Int), .int .i64 (ad : Int), .int .i64 (q : Int), .slice vs vn vc, .int .i64 rto] 32 (0, 0))) (.cells #[.int .u8 (fc : Int)] 5 (0, 0))
  have bw := k1.trans (k2.mono k1.size)
  obtain ⟨W, hW⟩ : ∃ W, W = (w.alloc (.cells #[.int .i64 (fc : Int), .int .i64 (ad : Int), .int .i64 (q : Int), .slice vs vn vc, .int .i64 rto] 32 (0, 0))).alloc (.cells #[.int .u8 (fc : Int)] 5 (0, 0)) := ⟨_, rfl⟩
  have ho : OwnV w.heap.size W (.slice (some ⟨w.heap.size + 1, 0, none⟩) 1 1) [fc] := by
    refine ⟨rfl, .inr ⟨w.heap.size + 1, 1, #[.int .u8 (fc : Int)], rfl, Nat.le_succ _, ?_, Nat.le_refl _, by unfold maxLen; omega, rfl, rfl⟩⟩
    have := heap_alloc_new (w.alloc (.cells #[.int .i64 (fc : Int), .int .i64 (ad : Int), .int .i64 (q : Int), .slice vs vn vc, .int .i64 rto] 32 (0, 0))) (.cells #[.int .u8 (fc : Int)] 5 (0, 0))
    rw [World.size_alloc] at this
    rw [hW]
    exact this
  have X0 := Lib.hid (show W.heap[w.heap.size]? = some (.cells #[.int .i64 (fc : Int), .int .i64 (ad : Int), .int .i64 (q : Int), .slice vs vn vc, .int .i64 rto] 32 (0, 0)) by rw [hW]; exact low_of k2 (heap_alloc_new w (.cells #[.int .i64 (fc : Int), .int .i64 (ad : Int), .int .i64 (q : Int), .slice vs vn vc, .int .i64 rto] 32 (0, 0))))
  rw [← hW] at bw
  have B0 := Lib.hid bw
  have WD := word14_any w.heap.size _ [fc] ad W bw.size ho had (by simp)
  have HW := Lib.hid hW
  have W1 := Lib.hid WD
  have HARG := Lib.hid harg
  have HV := Lib.hid hV
  have H15 := Lib.hid h15
  clear hP hr hh hft k1 k2 bw hW ho WD hk harg hV h15
  go_enter Try.func46, Try.ntmps46
  go_wp2_with fail
  rw [← HW.out]
  refine W1.out.mono ?_
  rintro e w1 ⟨v1, rfl, o1, z1, frm, ob1⟩
  have x1 : w1.heap[w.heap.size]? = some (.cells #[.int .i64 (fc : Int), .int .i64 (ad : Int), .int .i64 (q : Int), .slice vs vn vc, .int .i64 rto] 32 (0, 0)) := by
    refine (frm _ (by have := blk_lt X0.out; omega) ?_).trans X0.out
    simp [Value.ownBlock]
  have B1 := Lib.hid (B0.out.trans (z1.mono (Nat.le_refl _)))
  obtain ⟨c0, c1, c2, c3, c4⟩ := cells5 x1
  have WD2 := word14_any w.heap.size v1 ([fc] ++ wb [ad]) q w1 B1.out.size o1 hqq (by simp [wb_len])
  have W2 := Lib.hid WD2
  have h15 : fc = 16 := by have := H15.out; omega
  have f5 : ((fc : Int) == 5) = false := by simp; omega
  have f6 : ((fc : Int) == 6) = false := by simp; omega
  have f22 : ((fc : Int) == 22) = false := by simp; omega
  have f15 : ((fc : Int) == 15) = false := by simp; omega
  have f16 : ((fc : Int) == 16) = true := by simp; omega
  have X1 := Lib.hid x1
  have OB := Lib.hid ob1
  clear h15 WD2 x1 o1 z1 frm ob1
  go_wp2_with fail
  refine W2.out.mono ?_
  rintro e w2 ⟨v2, rfl, o2, z2, frm, ob2⟩
  have x2 : w2.heap[w.heap.size]? = some (.cells #[.int .i64 (fc : Int), .int .i64 (ad : Int), .int .i64 (q : Int), .slice vs vn vc, .int .i64 rto] 32 (0, 0)) := by
    refine (frm _ (by have := blk_lt X1.out; omega) ?_).trans X1.out
    intro e
    rcases OB.out _ e with h | h
    · simp [Value.ownBlock] at h
    · have := blk_lt X0.out; omega
  have B2 := Lib.hid (B1.out.trans z2)
  have O2 := Lib.hid o2
  obtain ⟨c0, c1, c2, c3, c4⟩ := cells5 x2
  have OBX : Hid (some w.heap.size ≠ v2.ownBlock) := Lib.hid (by
    intro e
    have e := e.symm
    rcases ob2 _ e with h | h
    · rcases OB.out _ h with h | h
      · simp [Value.ownBlock] at h
      · have := blk_lt X0.out; omega
    · have := blk_lt X1.out; omega)
  have XX := Lib.hid x2
  clear o2 z2 frm x2 ob2
  obtain ⟨m, hm⟩ : ∃ m, m = ([fc] ++ wb [ad] ++ wb [q]).length := ⟨_, rfl⟩
  have o3 : w2.ownsRow w.heap.size 5 1 v2 m (bv ([fc] ++ wb [ad] ++ wb [q])) := by rw [hm]; exact O2.out
  obtain ⟨va, vd, rfl⟩ := own_form o3
  have O3 := Lib.hid o3
  have HM := Lib.hid hm
  clear hm o3
  have hvn : vn ≤ 123 := by have := HV.out; have := HARG.out.row.ln; omega
  obtain ⟨nw, hnw⟩ : ∃ n, n = (wb V).length := ⟨_, rfl⟩
  have hnw2 : nw ≤ 246 := by rw [hnw, wb_len]; have := HV.out; omega
  have hby := wb_by HARG.out.row.by'
  obtain ⟨LW, hLW⟩ : ∃ l, l = wb V := ⟨_, rfl⟩
  obtain ⟨k, hk⟩ : ∃ k, k = 2 * vn := ⟨_, rfl⟩
  have k256 : k < 256 := by omega
  have s8 : IntKind.i64.wrap (2 * (vn : Int)) = 2 * (vn : Int) := IntWalk.i64_in _ (by omega)
  have c8 : IntKind.u8.wrap (2 * (vn : Int)) = (k : Int) := by rw [hk]; simp [IntKind.wrap, IntKind.bits, IntKind.signed]; omega
  have WO : Hid (∀ W, Kq w.heap.size w w2 (Value.slice va m vd).ownBlock W → Calls Try.prog 61 #[.slice vs vn vc] W (fun e w' => ∃ a d, e = .returned (.slice a nw d) ∧ ArgB w' a nw d LW ∧ (∀ b off, a = some ⟨b, off, none⟩ → w2.heap.size ≤ b) ∧ Below W.heap.size W w')) := Lib.hid (by
    intro W h
    refine (words14_any vs vn vc V W (HARG.out.row.below h.1) (by omega)).mono ?_
    rintro e w' ⟨v, rfl, ho, z⟩
    obtain ⟨a, d, rfl, hA, hb⟩ := ho.argB hby
    rw [← hnw, ← hLW] at hA
    exact ⟨a, d, by rw [hnw], hA, fun b off e => Nat.le_trans h.2.1 (hb b off e), z⟩)
  have NB : Hid (∀ W : World, Bys (W.alloc (.cells #[.int .u8 (k : Int)] 5 (0, 0))) (some ⟨W.heap.size, 0, none⟩) 1 [k]) := Lib.hid (fun W => new_bys k k256 W)
  have NB0 : Hid (Bys (w2.alloc (.cells #[.int .u8 (k : Int)] 5 (0, 0))).drew (some ⟨w2.heap.size, 0, none⟩) 1 [k]) := Lib.hid ((new_bys k k256 w2).below (Below.refl _ _).drew)
  have HQ : Hid (∀ g, (Value.slice va m vd).ownBlock = some g → g < w2.heap.size) := Lib.hid (fun g hg => (World.ownsRow.lt O3.out g hg).2)
  have BX : Hid (some w.heap.size ≠ (Value.slice va m vd).ownBlock) := Lib.hid (OBX.out)
  have SS : Hid (∀ W, Kq w.heap.size w w2 (Value.slice va m vd).ownBlock W → W.cell? ⟨w.heap.size, 3, none⟩ = some (.slice vs vn vc)) := Lib.hid (fun W h => (cells5 (h.at XX.out BX.out)).2.2.2.1)
  have kz : Kq w.heap.size w w2 (Value.slice va m vd).ownBlock w2 := Kq.refl B2.out (Nat.le_refl _)
  have rz : Rwq w.heap.size w2 (Value.slice va m vd).ownBlock w2 (.slice va m vd) m ([fc] ++ wb [ad] ++ wb [q]) := ⟨O3.out, .inl rfl⟩
  have k0 : Kq w.heap.size w w2 (Value.slice va m vd).ownBlock w2.drew := kz.drew
  have r0 : Rwq w.heap.size w2 (Value.slice va m vd).ownBlock w2.drew (.slice va m vd) m ([fc] ++ wb [ad] ++ wb [q]) := rz.drew
  have hnA : m ≤ 20 := by rw [HM.out]; simp [wb_len]
  have FA : Hid (∀ a d W, Kq w.heap.size w w2 (Value.slice va m vd).ownBlock W → Rwq w.heap.size w2 (Value.slice va m vd).ownBlock W (.slice a (m + 1 + nw) d) (m + 1 + nw) ([fc] ++ wb [ad] ++ wb [q] ++ [k] ++ LW) → P (.returned (.slice a (m + 1 + nw) d)) W) := Lib.hid (by
    intro a d W h1 h2
    have e2 : fc :: (wb [ad] ++ wb [q] ++ [k] ++ LW) = [fc] ++ wb [ad] ++ wb [q] ++ [k] ++ LW := by simp
    have e1 : (fc :: (wb [ad] ++ wb [q] ++ [k] ++ LW)).length = m + 1 + nw := by rw [e2, hLW, hnw, HM.out]; simp [wb_len]; omega
    refine FIN.out _ _ (wb [ad] ++ wb [q] ++ [k] ++ LW) ?_ ?_ ?_ h1.1 (by rw [hLW, show (wb V).length = k by (rw [wb_len, hk]; have := HARG.out.row.ln; omega)]; simp)
    · unfold OwnV
      rw [e1, e2]
      exact h2.1
    · intro b hb
      simp only [List.mem_cons, List.mem_append, List.not_mem_nil, or_false] at hb
      rcases hb with e | ((e | e) | e) | e
      · omega
      · exact wb_by1 had b e
      · exact wb_by1 hqq b e
      · omega
      · exact hby b (by rw [← hLW]; exact e)
    · rw [e1]; clear e1 e2 h2; omega)
  clear hLW hby
  have HNW := Lib.hid hnw
  have HKE := Lib.hid hk
  clear hnw hk
  go_upto_region 14 with fail
  go_region_held3 (fun w' => w'.cell? ⟨w.heap.size, 3, none⟩ = some (.slice vs vn vc)) (with_reducible first | exact SS.out _ k5 | exact SS.out _ k6 | exact SS.out _ k4 | exact SS.out _ k0 | exact SS.out _ (Kq.al _ kz).drew) (first
    | (refine step_one rfl (.tmp 53) (.tmp 59) rfl (Kq.al _ kz).drew (.slice va m vd) m ([fc] ++ wb [ad] ++ wb [q]) rfl (Rwq.al _ rz).drew (some ⟨_, 0, none⟩) 1 1 [k] rfl NB0.out (fun e => by cases e) (by omega) ?_; intro a4 d4 w4 k4 r4 g4)
    | (go_at_call 61; refine (WO.out _ k4).mono ?_; rintro e w6 ⟨a6, d6, rfl, A6, b6, z6⟩; have k6 := Kq.step (W' := w6) k4 z6; have r6 := Rwq.step (W' := w6) r4 z6)
    | (refine step_one rfl (.tmp 60) (.tmp 63) rfl k6 (.slice a4 (m + 1) d4) (m + 1) ([fc] ++ wb [ad] ++ wb [q] ++ [k]) rfl r6 a6 nw d6 LW rfl A6.row (fun e => (A6.nil e).2) (by omega) ?_; intro a5 d5 w5 k5 r5 g5))
  all_goals
    go_wp2_with fail
    exact FA.out _ _ _ k5 r5
end Go.Proofs.Ytdolgpogjnfpkaa
/- The document's bytes: 23. -/
namespace Go.Proofs.Ytdolgpogjnfpkaa
set_option linter.unusedVariables false
set_option linter.unusedSimpArgs false
open Go.ChangeShapes Go.WideShapes Go.ChangeAt Go.RowKit

/-- A word more behind it. -/
theorem word_kq {B : Nat} {w w2 W : World} {r : Option Nat} (hK : Kq B w w2 r W) (v : Value) (n : Nat) (L : List Nat) (hr : Rwq B w2 r W v n L) (hn : n = L.length) (x : Nat) (hx : x < 65536) (hL : n ≤ 40000) :
    Calls Try.prog 68 #[v, .int .i64 (x : Int)] W fun e w' => ∃ a' n' c', e = .returned (.slice a' n' c') ∧ Kq B w w2 r w' ∧ Rwq B w2 r w' (.slice a' n' c') n' (L ++ wb [x]) ∧ n' = (L ++ wb [x]).length := by
  subst hn
  refine (word14_any B v L x W hK.le hr.1 hx hL).mono ?_
  rintro e w' ⟨v', rfl, ho, z, frm, ob⟩
  have ho' : w'.ownsRow B 5 1 v' (L ++ wb [x]).length (bv (L ++ wb [x])) := ho
  obtain ⟨a', c', rfl⟩ := own_form ho'
  refine ⟨a', _, c', rfl, ⟨hK.1.trans z, Nat.le_trans hK.2.1 z.size, fun k hk hne => (frm k (by have := hK.2.1; omega) ?_).trans (hK.2.2.1 k hk hne), hK.2.2.2⟩, ⟨ho', ?_⟩, rfl⟩
  · rcases hr.2 with e | ⟨q, e, hq⟩
    · rw [e]; exact hne.symm
    · rw [e]; simp; omega
  · cases hq : (Value.slice a' (L ++ wb [x]).length c').ownBlock with
    | none =>
      exfalso
      have hl := wb_len [x]
      rcases ho'.2 with ⟨_, h0⟩ | ⟨g, cap, cur, hv, _⟩
      · rw [List.length_append] at h0; simp at hl; omega
      · rw [hv] at hq; simp [Value.ownBlock] at hq
    | some q =>
      rcases ob q hq with e | e
      · rcases hr.2 with e2 | ⟨q2, e2, hq2⟩
        · exact .inl (by rw [← e2, e])
        · rw [e] at e2; cases e2; exact .inr ⟨q, rfl, hq2⟩
      · exact .inr ⟨q, rfl, Nat.le_trans hK.2.1 e⟩

theorem putR_23 {r : Rq} (hh : has (fo r.fc) r = true) (h : r.fc = 23) : putR (fo r.fc) r = [r.fc.toNat] ++ wb [r.ad.toNat] ++ wb [r.q.toNat] ++ wb [r.to.toNat, r.V.length] ++ ((wb r.V).length :: wb r.V) := by
  unfold putR putN
  rw [h]
  simp [fo, formOf]
set_option maxRecDepth 100000 in
set_option maxHeartbeats 8000000 in
theorem bytes23_any (r : Rq) (w : World) (hr : r.ok w) (hk : formOf r.fc = some (fo r.fc)) (hh : has (fo r.fc) r = true) (h15 : r.fc = 23) : Calls Try.prog 46 #[rv r] w (OutP w (putR (fo r.fc) r)) := by
  rw [putR_23 hh h15]
  obtain ⟨P, hP⟩ : ∃ P, P = (OutP w ([r.fc.toNat] ++ wb [r.ad.toNat] ++ wb [r.q.toNat] ++ wb [r.to.toNat, r.V.length] ++ ((wb r.V).length :: wb r.V)) : Ending → World → Prop) := ⟨_, rfl⟩
  rw [← hP]
  have HP := Lib.hid hP
  obtain ⟨hf1, hf2, hq1, hq2⟩ := has_facts hk hh
  have hft := fit_of hh
  have harg := hr.arg
  have hV : r.V.length ≤ 121 := by
    have := hft.1.vmo
    have h5 : fo r.fc = ⟨true, true, false, 125, 1, 121, true, true⟩ := by rw [h15]; rfl
    rw [h5] at this; simp at this; omega
  obtain ⟨fc, ad, q, vs, vn, vc, V, rto⟩ := r
  simp only at hf1 hf2 hq1 hq2 hft h15 HP harg hV
  obtain ⟨fc, rfl⟩ : ∃ k : Nat, fc = (k : Int) := ⟨fc.toNat, by omega⟩
  obtain ⟨ad, rfl⟩ : ∃ k : Nat, ad = (k : Int) := ⟨ad.toNat, by omega⟩
  obtain ⟨q, rfl⟩ : ∃ k : Nat, q = (k : Int) := ⟨q.toNat, by omega⟩
  have had : ad < 65536 := by omega
  have hqq : q < 65536 := by omega
  obtain ⟨tn, rfl⟩ : ∃ k : Nat, rto = (k : Int) := ⟨rto.toNat, by omega⟩
  have htt : tn < 65536 := by omega
  clear hft
  simp only [rv]
  have i0 : IntKind.u8.wrap (fc : Int) = (fc : Int) := by simp [IntKind.wrap, IntKind.bits, IntKind.signed]; omega
  simp only [Int.toNat_natCast] at HP
  have FIN : Hid (∀ W' v L, OwnV w.heap.size W' v (fc :: L) → (∀ b ∈ fc :: L, b < 256) → (fc :: L).length ≤ 300 → Below w.heap.size w W' → fc :: L = [fc] ++ wb [ad] ++ wb [q] ++ wb [tn, V.length] ++ ((wb V).length :: wb V) → P (.returned v) W') := Lib.hid (fun W' v L h1 h2 h3 h4 h5 => by
    rw [HP.out, ← h5]; exact ⟨v, rfl, h1, h4⟩)
  have k1 := alloc_bq w (.cells #[.int .i64 (fc : Int), .int .i64 (ad : Int), .int .i64 (q : Int), .slice vs vn vc, .int .i64 (tn : Int)] 32 (0, 0))
  have k2 := alloc_bq (w.alloc (.cells #[.int .i64 (fc : Int), .int .i64 (ad : Int), .int .i64 (q : Int), .slice vs vn vc, .int .i64 (tn : Int)] 32 (0, 0))) (.cells #[.int .u8 (fc : Int)] 5 (0, 0))
  have bw := k1.trans (k2.mono k1.size)
  obtain ⟨W, hW⟩ : ∃ W, W = (w.alloc (.cells #[.int .i64 (fc : Int), .int .i64 (ad : Int), .int .i64 (q : Int), .slice vs vn vc, .int .i64 (tn : Int)] 32 (0, 0))).alloc (.cells #[.int .u8 (fc : Int)] 5 (0, 0)) := ⟨_, rfl⟩
  have ho : OwnV w.heap.size W (.slice (some ⟨w.heap.size + 1, 0, none⟩) 1 1) [fc] := by
    refine ⟨rfl, .inr ⟨w.heap.size + 1, 1, #[.int .u8 (fc : Int)], rfl, Nat.le_succ _, ?_, Nat.le_refl _, by unfold maxLen; omega, rfl, rfl⟩⟩
    have := heap_alloc_new (w.alloc (.cells #[.int .i64 (fc : Int), .int .i64 (ad : Int), .int .i64 (q : Int), .slice vs vn vc, .int .i64 (tn : Int)] 32 (0, 0))) (.cells #[.int .u8 (fc : Int)] 5 (0, 0))
    rw [World.size_alloc] at this
    rw [hW]
    exact this
  have X0 := Lib.hid (show W.heap[w.heap.size]? = some (.cells #[.int .i64 (fc : Int), .int .i64 (ad : Int), .int .i64 (q : Int), .slice vs vn vc, .int .i64 (tn : Int)] 32 (0, 0)) by rw [hW]; exact low_of k2 (heap_alloc_new w (.cells #[.int .i64 (fc : Int), .int .i64 (ad : Int), .int .i64 (q : Int), .slice vs vn vc, .int .i64 (tn : Int)] 32 (0, 0))))
  rw [← hW] at bw
  have B0 := Lib.hid bw
  have WD := word14_any w.heap.size _ [fc] ad W bw.size ho had (by simp)
  have HW := Lib.hid hW
  have W1 := Lib.hid WD
  have HARG := Lib.hid harg
  have HV := Lib.hid hV
  have H15 := Lib.hid h15
  clear hP hr hh k1 k2 bw hW ho WD hk harg hV h15
  go_enter Try.func46, Try.ntmps46
  go_wp2_with fail
  rw [← HW.out]
  refine W1.out.mono ?_
  rintro e w1 ⟨v1, rfl, o1, z1, frm, ob1⟩
  have x1 : w1.heap[w.heap.size]? = some (.cells #[.int .i64 (fc : Int), .int .i64 (ad : Int), .int .i64 (q : Int), .slice vs vn vc, .int .i64 (tn : Int)] 32 (0, 0)) := by
    refine (frm _ (by have := blk_lt X0.out; omega) ?_).trans X0.out
    simp [Value.ownBlock]
  have B1 := Lib.hid (B0.out.trans (z1.mono (Nat.le_refl _)))
  obtain ⟨c0, c1, c2, c3, c4⟩ := cells5 x1
  have WD2 := word14_any w.heap.size v1 ([fc] ++ wb [ad]) q w1 B1.out.size o1 hqq (by simp [wb_len])
  have W2 := Lib.hid WD2
  have h15 : fc = 23 := by have := H15.out; omega
  have f5 : ((fc : Int) == 5) = false := by simp; omega
  have f6 : ((fc : Int) == 6) = false := by simp; omega
  have f22 : ((fc : Int) == 22) = false := by simp; omega
  have f15 : ((fc : Int) == 15) = false := by simp; omega
  have f23 : ((fc : Int) == 23) = true := by simp; omega
  have f16 : ((fc : Int) == 16) = false := by simp; omega
  have X1 := Lib.hid x1
  have OB := Lib.hid ob1
  clear h15 WD2 x1 o1 z1 frm ob1
  go_wp2_with fail
  refine W2.out.mono ?_
  rintro e w2 ⟨v2, rfl, o2, z2, frm, ob2⟩
  have x2 : w2.heap[w.heap.size]? = some (.cells #[.int .i64 (fc : Int), .int .i64 (ad : Int), .int .i64 (q : Int), .slice vs vn vc, .int .i64 (tn : Int)] 32 (0, 0)) := by
    refine (frm _ (by have := blk_lt X1.out; omega) ?_).trans X1.out
    intro e
    rcases OB.out _ e with h | h
    · simp [Value.ownBlock] at h
    · have := blk_lt X0.out; omega
  have B2 := Lib.hid (B1.out.trans z2)
  have O2 := Lib.hid o2
  obtain ⟨c0, c1, c2, c3, c4⟩ := cells5 x2
  have OBX : Hid (some w.heap.size ≠ v2.ownBlock) := Lib.hid (by
    intro e
    have e := e.symm
    rcases ob2 _ e with h | h
    · rcases OB.out _ h with h | h
      · simp [Value.ownBlock] at h
      · have := blk_lt X0.out; omega
    · have := blk_lt X1.out; omega)
  have XX := Lib.hid x2
  clear o2 z2 frm x2 ob2
  obtain ⟨m, hm⟩ : ∃ m, m = ([fc] ++ wb [ad] ++ wb [q]).length := ⟨_, rfl⟩
  have o3 : w2.ownsRow w.heap.size 5 1 v2 m (bv ([fc] ++ wb [ad] ++ wb [q])) := by rw [hm]; exact O2.out
  obtain ⟨va, vd, rfl⟩ := own_form o3
  have O3 := Lib.hid o3
  have HM := Lib.hid hm
  clear hm o3
  have hvn : vn ≤ 121 := by have := HV.out; have := HARG.out.row.ln; omega
  have hvv : vn < 65536 := by omega
  have k0 : Kq w.heap.size w w2 (Value.slice va m vd).ownBlock w2.drew := (Kq.refl B2.out (Nat.le_refl _)).drew
  have r0 : Rwq w.heap.size w2 (Value.slice va m vd).ownBlock w2.drew (.slice va m vd) m ([fc] ++ wb [ad] ++ wb [q]) := (show Rwq w.heap.size w2 (Value.slice va m vd).ownBlock w2 (.slice va m vd) m ([fc] ++ wb [ad] ++ wb [q]) from ⟨O3.out, .inl rfl⟩).drew
  have mL : m = ([fc] ++ wb [ad] ++ wb [q]).length := HM.out
  have C1 := Lib.hid (fun (W : World) (hK : Kq w.heap.size w w2 (Value.slice va m vd).ownBlock W) (hr : Rwq w.heap.size w2 (Value.slice va m vd).ownBlock W (.slice va m vd) m ([fc] ++ wb [ad] ++ wb [q])) => word_kq hK (.slice va m vd) m _ hr mL tn htt (by rw [mL]; simp [wb_len]))
  have C2 := Lib.hid (fun (a7 : Option Addr) (m7 d7 : Nat) (W : World) (hK : Kq w.heap.size w w2 (Value.slice va m vd).ownBlock W) (hr : Rwq w.heap.size w2 (Value.slice va m vd).ownBlock W (.slice a7 m7 d7) m7 ([fc] ++ wb [ad] ++ wb [q] ++ wb [tn])) (m7L : m7 = ([fc] ++ wb [ad] ++ wb [q] ++ wb [tn]).length) => word_kq hK (.slice a7 m7 d7) m7 _ hr m7L vn hvv (by rw [m7L]; simp [wb_len]))
  have SS : Hid (∀ W, Kq w.heap.size w w2 (Value.slice va m vd).ownBlock W → W.cell? ⟨w.heap.size, 3, none⟩ = some (.slice vs vn vc) ∧ W.cell? ⟨w.heap.size, 4, none⟩ = some (.int .i64 (tn : Int))) := Lib.hid (fun W h => (cells5 (h.at XX.out OBX.out)).2.2.2)
  clear mL
  go_upto_region 16 with fail
  go_region_held3 (fun w' => w'.cell? ⟨w.heap.size, 3, none⟩ = some (.slice vs vn vc) ∧ w'.cell? ⟨w.heap.size, 4, none⟩ = some (.int .i64 (tn : Int))) (with_reducible first | exact SS.out _ k8 | exact SS.out _ k7 | exact SS.out _ k0) (first
    | (go_at_call 68; refine (C2.out a7 m7 d7 _ k7 r7 e7.out).mono ?_; rintro e w8 ⟨a8, m8, d8, rfl, k8, r8, q8⟩; have e8 := Lib.hid q8; clear q8)
    | (go_at_call 68; refine (C1.out _ k0 r0).mono ?_; rintro e w7 ⟨a7, m7, d7, rfl, k7, r7, q7⟩; have e7 := Lib.hid q7; clear q7))
  have B8 := Lib.hid k8.1
  have O8 := Lib.hid r8.1
  have HM8 : Hid (m8 = ([fc] ++ wb [ad] ++ wb [q] ++ wb [tn] ++ wb [vn]).length) := e8
  have X8 := Lib.hid (k8.at XX.out OBX.out)
  have OB8 : Hid (some w.heap.size ≠ (Value.slice a8 m8 d8).ownBlock) := Lib.hid (by
    rcases r8.2 with e | ⟨q, e, hq⟩
    · rw [e]; exact OBX.out
    · rw [e]; have := blk_lt XX.out; simp; omega)
  clear k0 r0 e7 k7 r7 k8 r8 e8 C1 C2 SS B2 O2 O3 HM XX OBX
  obtain ⟨nw, hnw⟩ : ∃ n, n = (wb V).length := ⟨_, rfl⟩
  have hnw2 : nw ≤ 246 := by rw [hnw, wb_len]; have := HV.out; omega
  have hby := wb_by HARG.out.row.by'
  obtain ⟨LW, hLW⟩ : ∃ l, l = wb V := ⟨_, rfl⟩
  obtain ⟨k, hk⟩ : ∃ k, k = 2 * vn := ⟨_, rfl⟩
  have k256 : k < 256 := by omega
  have s8 : IntKind.i64.wrap (2 * (vn : Int)) = 2 * (vn : Int) := IntWalk.i64_in _ (by omega)
  have c8 : IntKind.u8.wrap (2 * (vn : Int)) = (k : Int) := by rw [hk]; simp [IntKind.wrap, IntKind.bits, IntKind.signed]; omega
  have WO : Hid (∀ W, Kq w.heap.size w w8 (Value.slice a8 m8 d8).ownBlock W → Calls Try.prog 61 #[.slice vs vn vc] W (fun e w' => ∃ a d, e = .returned (.slice a nw d) ∧ ArgB w' a nw d LW ∧ (∀ b off, a = some ⟨b, off, none⟩ → w8.heap.size ≤ b) ∧ Below W.heap.size W w')) := Lib.hid (by
    intro W h
    refine (words14_any vs vn vc V W (HARG.out.row.below h.1) (by omega)).mono ?_
    rintro e w' ⟨v, rfl, ho, z⟩
    obtain ⟨a, d, rfl, hA, hb⟩ := ho.argB hby
    rw [← hnw, ← hLW] at hA
    exact ⟨a, d, by rw [hnw], hA, fun b off e => Nat.le_trans h.2.1 (hb b off e), z⟩)
  have NB : Hid (∀ W : World, Bys (W.alloc (.cells #[.int .u8 (k : Int)] 5 (0, 0))) (some ⟨W.heap.size, 0, none⟩) 1 [k]) := Lib.hid (fun W => new_bys k k256 W)
  have NB0 : Hid (Bys (w8.alloc (.cells #[.int .u8 (k : Int)] 5 (0, 0))).drew (some ⟨w8.heap.size, 0, none⟩) 1 [k]) := Lib.hid ((new_bys k k256 w8).below (Below.refl _ _).drew)
  have HQ : Hid (∀ g, (Value.slice a8 m8 d8).ownBlock = some g → g < w8.heap.size) := Lib.hid (fun g hg => (World.ownsRow.lt O8.out g hg).2)
  have BX : Hid (some w.heap.size ≠ (Value.slice a8 m8 d8).ownBlock) := Lib.hid (OB8.out)
  have SS : Hid (∀ W, Kq w.heap.size w w8 (Value.slice a8 m8 d8).ownBlock W → W.cell? ⟨w.heap.size, 3, none⟩ = some (.slice vs vn vc)) := Lib.hid (fun W h => (cells5 (h.at X8.out BX.out)).2.2.2.1)
  have kz : Kq w.heap.size w w8 (Value.slice a8 m8 d8).ownBlock w8 := Kq.refl B8.out (Nat.le_refl _)
  have rz : Rwq w.heap.size w8 (Value.slice a8 m8 d8).ownBlock w8 (.slice a8 m8 d8) m8 ([fc] ++ wb [ad] ++ wb [q] ++ wb [tn] ++ wb [vn]) := ⟨O8.out, .inl rfl⟩
  have k0 : Kq w.heap.size w w8 (Value.slice a8 m8 d8).ownBlock w8.drew := kz.drew
  have r0 : Rwq w.heap.size w8 (Value.slice a8 m8 d8).ownBlock w8.drew (.slice a8 m8 d8) m8 ([fc] ++ wb [ad] ++ wb [q] ++ wb [tn] ++ wb [vn]) := rz.drew
  have hnA : m8 ≤ 20 := by rw [HM8.out]; simp [wb_len]
  have FA : Hid (∀ a d W, Kq w.heap.size w w8 (Value.slice a8 m8 d8).ownBlock W → Rwq w.heap.size w8 (Value.slice a8 m8 d8).ownBlock W (.slice a (m8 + 1 + nw) d) (m8 + 1 + nw) ([fc] ++ wb [ad] ++ wb [q] ++ wb [tn] ++ wb [vn] ++ [k] ++ LW) → P (.returned (.slice a (m8 + 1 + nw) d)) W) := Lib.hid (by
    intro a d W h1 h2
    have e2 : fc :: (wb [ad] ++ wb [q] ++ wb [tn] ++ wb [vn] ++ [k] ++ LW) = [fc] ++ wb [ad] ++ wb [q] ++ wb [tn] ++ wb [vn] ++ [k] ++ LW := by simp
    have e1 : (fc :: (wb [ad] ++ wb [q] ++ wb [tn] ++ wb [vn] ++ [k] ++ LW)).length = m8 + 1 + nw := by rw [e2, hLW, hnw, HM8.out]; simp [wb_len]; omega
    refine FIN.out _ _ (wb [ad] ++ wb [q] ++ wb [tn] ++ wb [vn] ++ [k] ++ LW) ?_ ?_ ?_ h1.1 (by rw [hLW, show (wb V).length = k by (rw [wb_len, hk]; have := HARG.out.row.ln; omega), show V.length = vn from HARG.out.row.ln, show wb [tn, vn] = wb [tn] ++ wb [vn] from wb_app [tn] [vn]]; simp)
    · unfold OwnV
      rw [e1, e2]
      exact h2.1
    · intro b hb
      simp only [List.mem_cons, List.mem_append, List.not_mem_nil, or_false] at hb
      rcases hb with e | ((((e | e) | e) | e) | e) | e
      · omega
      · exact wb_by1 had b e
      · exact wb_by1 hqq b e
      · exact wb_by1 htt b e
      · exact wb_by1 hvv b e
      · omega
      · exact hby b (by rw [← hLW]; exact e)
    · rw [e1]; clear e1 e2 h2; omega)
  clear hLW hby
  have HNW := Lib.hid hnw
  have HKE := Lib.hid hk
  clear hnw hk
  go_upto_region 17 with fail
  go_region_held3 (fun w' => w'.cell? ⟨w.heap.size, 3, none⟩ = some (.slice vs vn vc)) (with_reducible first | exact SS.out _ k5 | exact SS.out _ k6 | exact SS.out _ k4 | exact SS.out _ k0 | exact SS.out _ (Kq.al _ kz).drew) (first
    | (refine step_one rfl (.tmp 75) (.tmp 81) rfl (Kq.al _ kz).drew (.slice a8 m8 d8) m8 ([fc] ++ wb [ad] ++ wb [q] ++ wb [tn] ++ wb [vn]) rfl (Rwq.al _ rz).drew (some ⟨_, 0, none⟩) 1 1 [k] rfl NB0.out (fun e => by cases e) (by omega) ?_; intro a4 d4 w4 k4 r4 g4)
    | (go_at_call 61; refine (WO.out _ k4).mono ?_; rintro e w6 ⟨a6, d6, rfl, A6, b6, z6⟩; have k6 := Kq.step (W' := w6) k4 z6; have r6 := Rwq.step (W' := w6) r4 z6)
    | (refine step_one rfl (.tmp 82) (.tmp 85) rfl k6 (.slice a4 (m8 + 1) d4) (m8 + 1) ([fc] ++ wb [ad] ++ wb [q] ++ wb [tn] ++ wb [vn] ++ [k]) rfl r6 a6 nw d6 LW rfl A6.row (fun e => (A6.nil e).2) (by omega) ?_; intro a5 d5 w5 k5 r5 g5))
  all_goals
    go_wp2_with fail
    exact FA.out _ _ _ k5 r5
end Go.Proofs.Ytdolgpogjnfpkaa
