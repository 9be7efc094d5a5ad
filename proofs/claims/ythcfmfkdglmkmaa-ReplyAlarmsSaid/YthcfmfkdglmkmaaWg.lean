/- The document's bytes: 16. -/
import Derived.Test.YthcfmfkdglmkmaaWf
namespace Go.Proofs.Ythcfmfkdglmkmaa
set_option linter.unusedVariables false
set_option linter.unusedSimpArgs false
open Go.ChangeShapes Go.WideShapes Go.ChangeAt Go.RowKit

set_option maxRecDepth 100000 in
set_option maxHeartbeats 8000000 in
theorem bytes16_any (r : Rq) (w : World) (hr : r.ok w) (hh : rightR r = true) (h15 : r.fc = 16) : Calls Try.prog 26 #[rv r] w (HeadP w r.fc.toNat) := by
  obtain ⟨P, hP⟩ : ∃ P, P = (HeadP w r.fc.toNat : Ending → World → Prop) := ⟨_, rfl⟩
  rw [← hP]
  have HP := Lib.hid hP
  obtain ⟨hk, hf1, hf2, hq1, hq2⟩ := right_facts hh
  have hft := fit_of (rt_of hh).hh
  have harg := hr.arg
  have hV : r.V.length ≤ 123 := by
    have := hft.1.vmo
    have h5 : fo r.fc = ⟨false, true, false, 123, 1, 123, true, false⟩ := by rw [h15]; rfl
    rw [h5] at this; simp at this; omega
  obtain ⟨fc, ad, q, vs, vn, vc, V, rto⟩ := r
  simp only at hf1 hf2 hq1 hq2 hft h15 HP harg hV
  obtain ⟨fc, rfl⟩ : ∃ k : Nat, fc = (k : Int) := ⟨fc.toNat, by omega⟩
  obtain ⟨ad, rfl⟩ : ∃ k : Nat, ad = (k : Int) := ⟨ad.toNat, by omega⟩
  obtain ⟨q, rfl⟩ : ∃ k : Nat, q = (k : Int) := ⟨q.toNat, by omega⟩
  have had : ad < 65536 := by omega
  have hqq : q < 65536 := by omega
  rw [Int.toNat_natCast] at HP
  simp only [rv]
  have i0 : IntKind.u8.wrap (fc : Int) = (fc : Int) := by simp [IntKind.wrap, IntKind.bits, IntKind.signed]; omega
  have FIN : Hid (∀ W' v L, OwnV w.heap.size W' v (fc :: L) → (∀ b ∈ fc :: L, b < 256) → (fc :: L).length ≤ 300 → Below w.heap.size w W' → P (.returned v) W') := Lib.hid (fun W' v L h1 h2 h3 h4 => by
    rw [HP.out]; exact ⟨v, L, rfl, h1, h2, h3, h4⟩)
  have k1 := alloc_bq w (.cells #[.int .i64 (fc : Int), .int .i64 (ad : Int), .int .i64 (q : Int), .slice vs vn vc, .int .i64 rto] 24 (0, 0))
  have k2 := alloc_bq (w.alloc (.cells #[.int .i64 (fc : Int), .int .i64 (ad : Int), .int .i64 (q : Int), .slice vs vn vc, .int .i64 rto] 24 (0, 0))) (.cells #[.int .u8 (fc : Int)] 5 (0, 0))
  have bw := k1.trans (k2.mono k1.size)
  obtain ⟨W, hW⟩ : ∃ W, W = (w.alloc (.cells #[.int .i64 (fc : Int), .int .i64 (ad : Int), .int .i64 (q : Int), .slice vs vn vc, .int .i64 rto] 24 (0, 0))).alloc (.cells #[.int .u8 (fc : Int)] 5 (0, 0)) := ⟨_, rfl⟩
  have ho : OwnV w.heap.size W (.slice (some ⟨w.heap.size + 1, 0, none⟩) 1 1) [fc] := by
    refine ⟨rfl, .inr ⟨w.heap.size + 1, 1, #[.int .u8 (fc : Int)], rfl, Nat.le_succ _, ?_, Nat.le_refl _, by unfold maxLen; omega, rfl, rfl⟩⟩
    have := heap_alloc_new (w.alloc (.cells #[.int .i64 (fc : Int), .int .i64 (ad : Int), .int .i64 (q : Int), .slice vs vn vc, .int .i64 rto] 24 (0, 0))) (.cells #[.int .u8 (fc : Int)] 5 (0, 0))
    rw [World.size_alloc] at this
    rw [hW]
    exact this
  have X0 := Lib.hid (show W.heap[w.heap.size]? = some (.cells #[.int .i64 (fc : Int), .int .i64 (ad : Int), .int .i64 (q : Int), .slice vs vn vc, .int .i64 rto] 24 (0, 0)) by rw [hW]; exact low_of k2 (heap_alloc_new w (.cells #[.int .i64 (fc : Int), .int .i64 (ad : Int), .int .i64 (q : Int), .slice vs vn vc, .int .i64 rto] 24 (0, 0))))
  rw [← hW] at bw
  have B0 := Lib.hid bw
  have WD := word14_any w.heap.size _ [fc] ad W bw.size ho had (by simp)
  have HW := Lib.hid hW
  have W1 := Lib.hid WD
  have HARG := Lib.hid harg
  have HV := Lib.hid hV
  have H15 := Lib.hid h15
  clear hP hr hh hft k1 k2 bw hW ho WD hk harg hV h15
  go_enter Try.func26, Try.ntmps26
  go_wp2_with fail
  rw [← HW.out]
  refine W1.out.mono ?_
  rintro e w1 ⟨v1, rfl, o1, z1, frm, ob1⟩
  have x1 : w1.heap[w.heap.size]? = some (.cells #[.int .i64 (fc : Int), .int .i64 (ad : Int), .int .i64 (q : Int), .slice vs vn vc, .int .i64 rto] 24 (0, 0)) := by
    refine (frm _ (by have := blk_lt X0.out; omega) ?_).trans X0.out
    simp [Value.ownBlock]
  have B1 := Lib.hid (B0.out.trans (z1.mono (Nat.le_refl _)))
  obtain ⟨c0, c1, c2, c3, c4⟩ := cells5 x1
  have WD2 := word14_any w.heap.size v1 ([fc] ++ wb [ad]) q w1 B1.out.size o1 hqq (by simp [wb_len])
  have W2 := Lib.hid WD2
  have h15 : fc = 16 := by have := H15.out; omega
  have f5 : ((fc : Int) == 5) = false := by simp; omega
  have f6 : ((fc : Int) == 6) = false := by simp; omega
  have f22 : ((fc : Int) == 22) = false := by simp; omega
  have f15 : ((fc : Int) == 15) = false := by simp; omega
  have f16 : ((fc : Int) == 16) = true := by simp; omega
  have X1 := Lib.hid x1
  have OB := Lib.hid ob1
  clear h15 WD2 x1 o1 z1 frm ob1
  go_wp2_with fail
  refine W2.out.mono ?_
  rintro e w2 ⟨v2, rfl, o2, z2, frm, ob2⟩
  have x2 : w2.heap[w.heap.size]? = some (.cells #[.int .i64 (fc : Int), .int .i64 (ad : Int), .int .i64 (q : Int), .slice vs vn vc, .int .i64 rto] 24 (0, 0)) := by
    refine (frm _ (by have := blk_lt X1.out; omega) ?_).trans X1.out
    intro e
    rcases OB.out _ e with h | h
    · simp [Value.ownBlock] at h
    · have := blk_lt X0.out; omega
  have B2 := Lib.hid (B1.out.trans z2)
  have O2 := Lib.hid o2
  obtain ⟨c0, c1, c2, c3, c4⟩ := cells5 x2
  have OBX : Hid (some w.heap.size ≠ v2.ownBlock) := Lib.hid (by
    intro e
    have e := e.symm
    rcases ob2 _ e with h | h
    · rcases OB.out _ h with h | h
      · simp [Value.ownBlock] at h
      · have := blk_lt X0.out; omega
    · have := blk_lt X1.out; omega)
  have XX := Lib.hid x2
  clear o2 z2 frm x2 ob2
  obtain ⟨m, hm⟩ : ∃ m, m = ([fc] ++ wb [ad] ++ wb [q]).length := ⟨_, rfl⟩
  have o3 : w2.ownsRow w.heap.size 5 1 v2 m (bv ([fc] ++ wb [ad] ++ wb [q])) := by rw [hm]; exact O2.out
  obtain ⟨va, vd, rfl⟩ := own_form o3
  have O3 := Lib.hid o3
  have HM := Lib.hid hm
  clear hm o3
  have hvn : vn ≤ 123 := by have := HV.out; have := HARG.out.row.ln; omega
  obtain ⟨nw, hnw⟩ : ∃ n, n = (wb V).length := ⟨_, rfl⟩
  have hnw2 : nw ≤ 246 := by rw [hnw, wb_len]; have := HV.out; omega
  have hby := wb_by HARG.out.row.by'
  obtain ⟨LW, hLW⟩ : ∃ l, l = wb V := ⟨_, rfl⟩
  obtain ⟨k, hk⟩ : ∃ k, k = 2 * vn := ⟨_, rfl⟩
  have k256 : k < 256 := by omega
  have s8 : IntKind.i64.wrap (2 * (vn : Int)) = 2 * (vn : Int) := IntWalk.i64_in _ (by omega)
  have c8 : IntKind.u8.wrap (2 * (vn : Int)) = (k : Int) := by rw [hk]; simp [IntKind.wrap, IntKind.bits, IntKind.signed]; omega
  have WO : Hid (∀ W, Kq w.heap.size w w2 (Value.slice va m vd).ownBlock W → Calls Try.prog 42 #[.slice vs vn vc] W (fun e w' => ∃ a d, e = .returned (.slice a nw d) ∧ ArgB w' a nw d LW ∧ (∀ b off, a = some ⟨b, off, none⟩ → w2.heap.size ≤ b) ∧ Below W.heap.size W w')) := Lib.hid (by
    intro W h
    refine (words14_any vs vn vc V W (HARG.out.row.below h.1) (by omega)).mono ?_
    rintro e w' ⟨v, rfl, ho, z⟩
    obtain ⟨a, d, rfl, hA, hb⟩ := ho.argB hby
    rw [← hnw, ← hLW] at hA
    exact ⟨a, d, by rw [hnw], hA, fun b off e => Nat.le_trans h.2.1 (hb b off e), z⟩)
  have NB : Hid (∀ W : World, Bys (W.alloc (.cells #[.int .u8 (k : Int)] 5 (0, 0))) (some ⟨W.heap.size, 0, none⟩) 1 [k]) := Lib.hid (fun W => new_bys k k256 W)
  have NB0 : Hid (Bys (w2.alloc (.cells #[.int .u8 (k : Int)] 5 (0, 0))).drew (some ⟨w2.heap.size, 0, none⟩) 1 [k]) := Lib.hid ((new_bys k k256 w2).below (Below.refl _ _).drew)
  have HQ : Hid (∀ g, (Value.slice va m vd).ownBlock = some g → g < w2.heap.size) := Lib.hid (fun g hg => (World.ownsRow.lt O3.out g hg).2)
  have BX : Hid (some w.heap.size ≠ (Value.slice va m vd).ownBlock) := Lib.hid (OBX.out)
  have SS : Hid (∀ W, Kq w.heap.size w w2 (Value.slice va m vd).ownBlock W → W.cell? ⟨w.heap.size, 3, none⟩ = some (.slice vs vn vc)) := Lib.hid (fun W h => (cells5 (h.at XX.out BX.out)).2.2.2.1)
  have kz : Kq w.heap.size w w2 (Value.slice va m vd).ownBlock w2 := Kq.refl B2.out (Nat.le_refl _)
  have rz : Rwq w.heap.size w2 (Value.slice va m vd).ownBlock w2 (.slice va m vd) m ([fc] ++ wb [ad] ++ wb [q]) := ⟨O3.out, .inl rfl⟩
  have k0 : Kq w.heap.size w w2 (Value.slice va m vd).ownBlock w2.drew := kz.drew
  have r0 : Rwq w.heap.size w2 (Value.slice va m vd).ownBlock w2.drew (.slice va m vd) m ([fc] ++ wb [ad] ++ wb [q]) := rz.drew
  have hnA : m ≤ 20 := by rw [HM.out]; simp [wb_len]
  have FA : Hid (∀ a d W, Kq w.heap.size w w2 (Value.slice va m vd).ownBlock W → Rwq w.heap.size w2 (Value.slice va m vd).ownBlock W (.slice a (m + 1 + nw) d) (m + 1 + nw) ([fc] ++ wb [ad] ++ wb [q] ++ [k] ++ LW) → P (.returned (.slice a (m + 1 + nw) d)) W) := Lib.hid (by
    intro a d W h1 h2
    have e2 : fc :: (wb [ad] ++ wb [q] ++ [k] ++ LW) = [fc] ++ wb [ad] ++ wb [q] ++ [k] ++ LW := by simp
    have e1 : (fc :: (wb [ad] ++ wb [q] ++ [k] ++ LW)).length = m + 1 + nw := by rw [e2, hLW, hnw, HM.out]; simp [wb_len]; omega
    refine FIN.out _ _ (wb [ad] ++ wb [q] ++ [k] ++ LW) ?_ ?_ ?_ h1.1
    · unfold OwnV
      rw [e1, e2]
      exact h2.1
    · intro b hb
      simp only [List.mem_cons, List.mem_append, List.not_mem_nil, or_false] at hb
      rcases hb with e | ((e | e) | e) | e
      · omega
      · exact wb_by1 had b e
      · exact wb_by1 hqq b e
      · omega
      · exact hby b (by rw [← hLW]; exact e)
    · rw [e1]; clear e1 e2 h2; omega)
  clear hLW hby
  have HNW := Lib.hid hnw
  have HKE := Lib.hid hk
  clear hnw hk
  go_upto_region 14 with fail
  go_region_held3 (fun w' => w'.cell? ⟨w.heap.size, 3, none⟩ = some (.slice vs vn vc)) (with_reducible first | exact SS.out _ k5 | exact SS.out _ k6 | exact SS.out _ k4 | exact SS.out _ k0 | exact SS.out _ (Kq.al _ kz).drew) (first
    | (refine step_one rfl (.tmp 53) (.tmp 59) rfl (Kq.al _ kz).drew (.slice va m vd) m ([fc] ++ wb [ad] ++ wb [q]) rfl (Rwq.al _ rz).drew (some ⟨_, 0, none⟩) 1 1 [k] rfl NB0.out (fun e => by cases e) (by omega) ?_; intro a4 d4 w4 k4 r4 g4)
    | (go_at_call 42; refine (WO.out _ k4).mono ?_; rintro e w6 ⟨a6, d6, rfl, A6, b6, z6⟩; have k6 := Kq.step (W' := w6) k4 z6; have r6 := Rwq.step (W' := w6) r4 z6)
    | (refine step_one rfl (.tmp 60) (.tmp 63) rfl k6 (.slice a4 (m + 1) d4) (m + 1) ([fc] ++ wb [ad] ++ wb [q] ++ [k]) rfl r6 a6 nw d6 LW rfl A6.row (fun e => (A6.nil e).2) (by omega) ?_; intro a5 d5 w5 k5 r5 g5))
  all_goals
    go_wp2_with fail
    exact FA.out _ _ _ k5 r5
end Go.Proofs.Ythcfmfkdglmkmaa
