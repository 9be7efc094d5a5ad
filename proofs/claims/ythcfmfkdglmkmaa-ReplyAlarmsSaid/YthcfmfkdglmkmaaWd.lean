/- The document's bytes of a request: what begins with Fc. -/
import Derived.Test.YthcfmfkdglmkmaaWc
namespace Go.Proofs.Ythcfmfkdglmkmaa
set_option linter.unusedVariables false
set_option linter.unusedSimpArgs false
open Go.ChangeShapes Go.WideShapes Go.ChangeAt Go.RowKit

set_option maxRecDepth 100000 in
set_option maxHeartbeats 8000000 in
theorem bytes5_any (r : Rq) (w : World) (hr : r.ok w) (hh : rightR r = true) (h15 : r.fc = 5) : Calls Try.prog 26 #[rv r] w (HeadP w r.fc.toNat) := by
  obtain ⟨P, hP⟩ : ∃ P, P = (HeadP w r.fc.toNat : Ending → World → Prop) := ⟨_, rfl⟩
  rw [← hP]
  have HP := Lib.hid hP
  obtain ⟨hk, hf1, hf2, hq1, hq2⟩ := right_facts hh
  have hft := fit_of (rt_of hh).hh
  have harg := hr.arg
  have hV : r.V.length = 1 ∧ allB r.V = true := by
    have h5 : fo r.fc = ⟨false, true, true, 0, 1, 1, false, false⟩ := by rw [h15]; rfl
    rw [h5] at hft
    have := hft.1.vle
    have := hft.1.vmo
    exact ⟨by simp at *; omega, hft.1.bi rfl⟩
  obtain ⟨fc, ad, q, vs, vn, vc, V, rto⟩ := r
  simp only at hf1 hf2 hq1 hq2 hft h15 HP harg hV
  obtain ⟨fc, rfl⟩ : ∃ k : Nat, fc = (k : Int) := ⟨fc.toNat, by omega⟩
  obtain ⟨ad, rfl⟩ : ∃ k : Nat, ad = (k : Int) := ⟨ad.toNat, by omega⟩
  obtain ⟨q, rfl⟩ : ∃ k : Nat, q = (k : Int) := ⟨q.toNat, by omega⟩
  have had : ad < 65536 := by omega
  have hqq : q < 65536 := by omega
  rw [Int.toNat_natCast] at HP
  simp only [rv]
  have i0 : IntKind.u8.wrap (fc : Int) = (fc : Int) := by simp [IntKind.wrap, IntKind.bits, IntKind.signed]; omega
  have FIN : Hid (∀ W' v L, OwnV w.heap.size W' v (fc :: L) → (∀ b ∈ fc :: L, b < 256) → (fc :: L).length ≤ 300 → Below w.heap.size w W' → P (.returned v) W') := Lib.hid (fun W' v L h1 h2 h3 h4 => by
    rw [HP.out]; exact ⟨v, L, rfl, h1, h2, h3, h4⟩)
  have k1 := alloc_bq w (.cells #[.int .i64 (fc : Int), .int .i64 (ad : Int), .int .i64 (q : Int), .slice vs vn vc, .int .i64 rto] 24 (0, 0))
  have k2 := alloc_bq (w.alloc (.cells #[.int .i64 (fc : Int), .int .i64 (ad : Int), .int .i64 (q : Int), .slice vs vn vc, .int .i64 rto] 24 (0, 0))) (.cells #[.int .u8 (fc : Int)] 5 (0, 0))
  have bw := k1.trans (k2.mono k1.size)
  obtain ⟨W, hW⟩ : ∃ W, W = (w.alloc (.cells #[.int .i64 (fc : Int), .int .i64 (ad : Int), .int .i64 (q : Int), .slice vs vn vc, .int .i64 rto] 24 (0, 0))).alloc (.cells #[.int .u8 (fc : Int)] 5 (0, 0)) := ⟨_, rfl⟩
  have ho : OwnV w.heap.size W (.slice (some ⟨w.heap.size + 1, 0, none⟩) 1 1) [fc] := by
    refine ⟨rfl, .inr ⟨w.heap.size + 1, 1, #[.int .u8 (fc : Int)], rfl, Nat.le_succ _, ?_, Nat.le_refl _, by unfold maxLen; omega, rfl, rfl⟩⟩
    have := heap_alloc_new (w.alloc (.cells #[.int .i64 (fc : Int), .int .i64 (ad : Int), .int .i64 (q : Int), .slice vs vn vc, .int .i64 rto] 24 (0, 0))) (.cells #[.int .u8 (fc : Int)] 5 (0, 0))
    rw [World.size_alloc] at this
    rw [hW]
    exact this
  have X0 := Lib.hid (show W.heap[w.heap.size]? = some (.cells #[.int .i64 (fc : Int), .int .i64 (ad : Int), .int .i64 (q : Int), .slice vs vn vc, .int .i64 rto] 24 (0, 0)) by rw [hW]; exact low_of k2 (heap_alloc_new w (.cells #[.int .i64 (fc : Int), .int .i64 (ad : Int), .int .i64 (q : Int), .slice vs vn vc, .int .i64 rto] 24 (0, 0))))
  rw [← hW] at bw
  have B0 := Lib.hid bw
  have WD := word14_any w.heap.size _ [fc] ad W bw.size ho had (by simp)
  have HW := Lib.hid hW
  have W1 := Lib.hid WD
  have HARG := Lib.hid harg
  have H15 := Lib.hid h15
  clear hP hr hh hft k1 k2 bw hW ho WD hk harg h15
  go_enter Try.func26, Try.ntmps26
  go_wp2_with fail
  rw [← HW.out]
  refine W1.out.mono ?_
  rintro e w1 ⟨v1, rfl, o1, z1, frm, ob1⟩
  have x1 : w1.heap[w.heap.size]? = some (.cells #[.int .i64 (fc : Int), .int .i64 (ad : Int), .int .i64 (q : Int), .slice vs vn vc, .int .i64 rto] 24 (0, 0)) := by
    refine (frm _ (by have := blk_lt X0.out; omega) ?_).trans X0.out
    simp [Value.ownBlock]
  have B1 := Lib.hid (B0.out.trans (z1.mono (Nat.le_refl _)))
  obtain ⟨c0, c1, c2, c3, c4⟩ := cells5 x1
  have h15 := H15.out
  have f5 : ((fc : Int) == 5) = true := by simp; omega
  obtain ⟨b, off, rfl, hc0⟩ := (HARG.out.row.below B1.out).row 0 (by have := HARG.out.row.ln; omega)
  rw [Nat.add_zero] at hc0
  have hx := allB_getD hV.2 0
  generalize V.getD 0 0 = x at hc0 hx
  have WD2 : Calls Try.prog 41 #[v1, .int .i64 (65280 * (x : Int))] w1 (GrewP w.heap.size v1 w1 ([fc] ++ wb [ad] ++ wb [65280 * x])) := by
    have := word14_any w.heap.size v1 ([fc] ++ wb [ad]) (65280 * x) w1 B1.out.size o1 (by omega) (by simp [wb_len])
    rwa [show ((65280 * x : Nat) : Int) = 65280 * (x : Int) by omega] at this
  have W2 := Lib.hid WD2
  have i3 : IntKind.i64.wrap (x : Int) = (x : Int) := IntWalk.i64_in _ (by omega)
  have s3 : wrap64 (65280 * (x : Int)) = 65280 * (x : Int) := by unfold wrap64; omega
  have d0 : (0 : Int) < (vn : Int) := by have := HARG.out.row.ln; omega
  clear h15 WD2 x1 o1 z1 frm ob1 hV
  go_wp2_with fail
  refine W2.out.mono ?_
  rintro e w2 ⟨v2, rfl, o2, z2, frm, ob2⟩
  have B2 := Lib.hid (B1.out.trans z2)
  have O2 := Lib.hid o2
  clear o2 z2 frm ob2
  go_wp2_with fail
  refine FIN.out _ _ (wb [ad] ++ wb [65280 * x]) (by have := O2.out; rwa [List.append_assoc] at this) ?_ (by simp [wb_len]) B2.out
  intro b hb
  simp only [List.mem_cons, List.mem_append] at hb
  rcases hb with e | e | e
  · omega
  · exact wb_by1 had b e
  · exact wb_by1 (by omega) b e
set_option maxRecDepth 100000 in
set_option maxHeartbeats 8000000 in
theorem bytes6_any (r : Rq) (w : World) (hr : r.ok w) (hh : rightR r = true) (h15 : r.fc = 6 ∨ r.fc = 22) : Calls Try.prog 26 #[rv r] w (HeadP w r.fc.toNat) := by
  obtain ⟨P, hP⟩ : ∃ P, P = (HeadP w r.fc.toNat : Ending → World → Prop) := ⟨_, rfl⟩
  rw [← hP]
  have HP := Lib.hid hP
  obtain ⟨hk, hf1, hf2, hq1, hq2⟩ := right_facts hh
  have hft := fit_of (rt_of hh).hh
  have harg := hr.arg
  have hV : r.V.length ≤ 2 := by
    have := hft.1.vmo
    rcases h15 with h | h
    · have h5 : fo r.fc = ⟨false, true, false, 0, 1, 1, false, false⟩ := by rw [h]; rfl
      rw [h5] at this; simp at this; omega
    · have h5 : fo r.fc = ⟨false, true, false, 0, 2, 2, false, false⟩ := by rw [h]; rfl
      rw [h5] at this; simp at this; omega
  obtain ⟨fc, ad, q, vs, vn, vc, V, rto⟩ := r
  simp only at hf1 hf2 hq1 hq2 hft h15 HP harg hV
  obtain ⟨fc, rfl⟩ : ∃ k : Nat, fc = (k : Int) := ⟨fc.toNat, by omega⟩
  obtain ⟨ad, rfl⟩ : ∃ k : Nat, ad = (k : Int) := ⟨ad.toNat, by omega⟩
  obtain ⟨q, rfl⟩ : ∃ k : Nat, q = (k : Int) := ⟨q.toNat, by omega⟩
  have had : ad < 65536 := by omega
  have hqq : q < 65536 := by omega
  rw [Int.toNat_natCast] at HP
  simp only [rv]
  have i0 : IntKind.u8.wrap (fc : Int) = (fc : Int) := by simp [IntKind.wrap, IntKind.bits, IntKind.signed]; omega
  have FIN : Hid (∀ W' v L, OwnV w.heap.size W' v (fc :: L) → (∀ b ∈ fc :: L, b < 256) → (fc :: L).length ≤ 300 → Below w.heap.size w W' → P (.returned v) W') := Lib.hid (fun W' v L h1 h2 h3 h4 => by
    rw [HP.out]; exact ⟨v, L, rfl, h1, h2, h3, h4⟩)
  have k1 := alloc_bq w (.cells #[.int .i64 (fc : Int), .int .i64 (ad : Int), .int .i64 (q : Int), .slice vs vn vc, .int .i64 rto] 24 (0, 0))
  have k2 := alloc_bq (w.alloc (.cells #[.int .i64 (fc : Int), .int .i64 (ad : Int), .int .i64 (q : Int), .slice vs vn vc, .int .i64 rto] 24 (0, 0))) (.cells #[.int .u8 (fc : Int)] 5 (0, 0))
  have bw := k1.trans (k2.mono k1.size)
  obtain ⟨W, hW⟩ : ∃ W, W = (w.alloc (.cells #[.int .i64 (fc : Int), .int .i64 (ad : Int), .int .i64 (q : Int), .slice vs vn vc, .int .i64 rto] 24 (0, 0))).alloc (.cells #[.int .u8 (fc : Int)] 5 (0, 0)) := ⟨_, rfl⟩
  have ho : OwnV w.heap.size W (.slice (some ⟨w.heap.size + 1, 0, none⟩) 1 1) [fc] := by
    refine ⟨rfl, .inr ⟨w.heap.size + 1, 1, #[.int .u8 (fc : Int)], rfl, Nat.le_succ _, ?_, Nat.le_refl _, by unfold maxLen; omega, rfl, rfl⟩⟩
    have := heap_alloc_new (w.alloc (.cells #[.int .i64 (fc : Int), .int .i64 (ad : Int), .int .i64 (q : Int), .slice vs vn vc, .int .i64 rto] 24 (0, 0))) (.cells #[.int .u8 (fc : Int)] 5 (0, 0))
    rw [World.size_alloc] at this
    rw [hW]
    exact this
  have X0 := Lib.hid (show W.heap[w.heap.size]? = some (.cells #[.int .i64 (fc : Int), .int .i64 (ad : Int), .int .i64 (q : Int), .slice vs vn vc, .int .i64 rto] 24 (0, 0)) by rw [hW]; exact low_of k2 (heap_alloc_new w (.cells #[.int .i64 (fc : Int), .int .i64 (ad : Int), .int .i64 (q : Int), .slice vs vn vc, .int .i64 rto] 24 (0, 0))))
  rw [← hW] at bw
  have B0 := Lib.hid bw
  have WD := word14_any w.heap.size _ [fc] ad W bw.size ho had (by simp)
  have HW := Lib.hid hW
  have W1 := Lib.hid WD
  have HARG := Lib.hid harg
  have H15 := Lib.hid h15
  clear hP hr hh hft k1 k2 bw hW ho WD hk harg h15
  go_enter Try.func26, Try.ntmps26
  go_wp2_with fail
  rw [← HW.out]
  refine W1.out.mono ?_
  rintro e w1 ⟨v1, rfl, o1, z1, frm, ob1⟩
  have x1 : w1.heap[w.heap.size]? = some (.cells #[.int .i64 (fc : Int), .int .i64 (ad : Int), .int .i64 (q : Int), .slice vs vn vc, .int .i64 rto] 24 (0, 0)) := by
    refine (frm _ (by have := blk_lt X0.out; omega) ?_).trans X0.out
    simp [Value.ownBlock]
  have B1 := Lib.hid (B0.out.trans (z1.mono (Nat.le_refl _)))
  obtain ⟨c0, c1, c2, c3, c4⟩ := cells5 x1
  have h15 := H15.out
  rcases h15 with h15 | h15
  · have h15 : fc = 6 := by omega
    have f5 : ((fc : Int) == 5) = false := by simp; omega
    have f6 : ((fc : Int) == 6) = true := by simp; omega
    have WO := Lib.hid (words14_any vs vn vc V w1 (HARG.out.row.below B1.out) (by have := HARG.out.row.ln; omega))
    have O1 := Lib.hid o1
    have HV := Lib.hid hV
    clear h15 x1 o1 z1 frm ob1 hV
    go_wp2_with fail
    refine WO.out.mono ?_
    rintro e w2 ⟨v2, rfl, o2, z2⟩
    obtain ⟨a2, d2, hv2, ab2, _⟩ := OwnV.argB o2 (wb_by HARG.out.row.by')
    subst hv2
    have A2 := Lib.hid ab2
    have O2 := Lib.hid (O1.out.keep z2)
    have B2 := Lib.hid (B1.out.trans (z2.mono B1.out.size))
    have hl2 : (wb V).length ≤ 4 := by rw [wb_len]; have := HV.out; omega
    have HL2 := Lib.hid hl2
    clear o2 z2 ab2 hl2
    obtain ⟨m, hm⟩ : ∃ m, m = ([fc] ++ wb [ad]).length := ⟨_, rfl⟩
    have o2' : w2.ownsRow w.heap.size 5 1 v1 m (bv ([fc] ++ wb [ad])) := by rw [hm]; exact O2.out
    obtain ⟨va, vd, rfl⟩ := own_form o2'
    have OO := Lib.hid o2'
    have HMM := Lib.hid hm
    have hm3 : m = 3 := by rw [hm]; simp [wb_len]
    have HM3 := Lib.hid hm3
    obtain ⟨m2, hm2⟩ : ∃ m, m = (wb V).length := ⟨_, rfl⟩
    have A2' := Lib.hid (show ArgB w2 a2 m2 d2 (wb V) by rw [hm2]; exact A2.out)
    have HM2 := Lib.hid hm2
    rw [← hm2]
    clear o2' hm hm3 hm2
    go_wp2_with (at_builtin; refine wpList_append_bys rfl (.tmp 27) (.tmp 30) rfl w.heap.size _ B2.out.size _ m ([fc] ++ wb [ad]) rfl OO.out a2 m2 d2 (wb V) rfl A2'.out.row (fun e => (A2'.out.nil e).2) (by have := HL2.out; have := HM2.out; have := HM3.out; omega) ?_)
    intro v' w' ho' hg' _ hob
    have hbA : Below w.heap.size w w' := B2.out.grown hg' B2.out.size (fun q hq => (World.ownsRow.lt OO.out q hq).1)
    have FF : Hid (P (.returned v') w') := Lib.hid (by
      refine FIN.out _ _ (wb [ad] ++ wb V) ?_ ?_ (by have := HL2.out; simp [wb_len] at *; omega) hbA
      · unfold OwnV
        have e : (fc :: (wb [ad] ++ wb V)).length = m + m2 := by have := HMM.out; have := HM2.out; simp at *; omega
        rw [e]
        exact ho'
      · intro b hb
        simp only [List.mem_cons, List.mem_append] at hb
        rcases hb with e | e | e
        · omega
        · exact wb_by1 had b e
        · exact wb_by HARG.out.row.by' b e)
    clear ho' hg' hob hbA
    go_wp2_with fail
    exact FF.out
  · have h15 : fc = 22 := by omega
    have f5 : ((fc : Int) == 5) = false := by simp; omega
    have f6 : ((fc : Int) == 6) = false := by simp; omega
    have f22 : ((fc : Int) == 22) = true := by simp; omega
    have WO := Lib.hid (words14_any vs vn vc V w1 (HARG.out.row.below B1.out) (by have := HARG.out.row.ln; omega))
    have O1 := Lib.hid o1
    have HV := Lib.hid hV
    clear h15 x1 o1 z1 frm ob1 hV
    go_wp2_with fail
    refine WO.out.mono ?_
    rintro e w2 ⟨v2, rfl, o2, z2⟩
    obtain ⟨a2, d2, hv2, ab2, _⟩ := OwnV.argB o2 (wb_by HARG.out.row.by')
    subst hv2
    have A2 := Lib.hid ab2
    have O2 := Lib.hid (O1.out.keep z2)
    have B2 := Lib.hid (B1.out.trans (z2.mono B1.out.size))
    have hl2 : (wb V).length ≤ 4 := by rw [wb_len]; have := HV.out; omega
    have HL2 := Lib.hid hl2
    clear o2 z2 ab2 hl2
    obtain ⟨m, hm⟩ : ∃ m, m = ([fc] ++ wb [ad]).length := ⟨_, rfl⟩
    have o2' : w2.ownsRow w.heap.size 5 1 v1 m (bv ([fc] ++ wb [ad])) := by rw [hm]; exact O2.out
    obtain ⟨va, vd, rfl⟩ := own_form o2'
    have OO := Lib.hid o2'
    have HMM := Lib.hid hm
    have hm3 : m = 3 := by rw [hm]; simp [wb_len]
    have HM3 := Lib.hid hm3
    obtain ⟨m2, hm2⟩ : ∃ m, m = (wb V).length := ⟨_, rfl⟩
    have A2' := Lib.hid (show ArgB w2 a2 m2 d2 (wb V) by rw [hm2]; exact A2.out)
    have HM2 := Lib.hid hm2
    rw [← hm2]
    clear o2' hm hm3 hm2
    go_wp2_with (at_builtin; refine wpList_append_bys rfl (.tmp 27) (.tmp 30) rfl w.heap.size _ B2.out.size _ m ([fc] ++ wb [ad]) rfl OO.out a2 m2 d2 (wb V) rfl A2'.out.row (fun e => (A2'.out.nil e).2) (by have := HL2.out; have := HM2.out; have := HM3.out; omega) ?_)
    intro v' w' ho' hg' _ hob
    have hbA : Below w.heap.size w w' := B2.out.grown hg' B2.out.size (fun q hq => (World.ownsRow.lt OO.out q hq).1)
    have FF : Hid (P (.returned v') w') := Lib.hid (by
      refine FIN.out _ _ (wb [ad] ++ wb V) ?_ ?_ (by have := HL2.out; simp [wb_len] at *; omega) hbA
      · unfold OwnV
        have e : (fc :: (wb [ad] ++ wb V)).length = m + m2 := by have := HMM.out; have := HM2.out; simp at *; omega
        rw [e]
        exact ho'
      · intro b hb
        simp only [List.mem_cons, List.mem_append] at hb
        rcases hb with e | e | e
        · omega
        · exact wb_by1 had b e
        · exact wb_by HARG.out.row.by' b e)
    clear ho' hg' hob hbA
    go_wp2_with fail
    exact FF.out
end Go.Proofs.Ythcfmfkdglmkmaa
