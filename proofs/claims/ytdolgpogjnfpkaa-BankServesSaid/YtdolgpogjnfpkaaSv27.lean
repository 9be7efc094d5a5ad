/- What is done by a right request: plain facts; all places, in new memory. -/
import Derived.Test.YtdolgpogjnfpkaaSv26
import Derived.Test.YtdolgpogjnfpkaaSv19
import Derived.Deep.RegionHeld
import Derived.Laws.IdiomArrays
namespace Go.Proofs.Ytdolgpogjnfpkaa
set_option linter.unusedVariables false
set_option linter.unusedSimpArgs false
open Go.ChangeShapes Go.WideShapes Go.ChangeAt Go.RowKit

/-- Coils and inputs are 0 or 1. -/
def BitR (R : Nat → List Nat) : Prop := (∀ v ∈ R 0, v ≤ 1) ∧ (∀ v ∈ R 1, v ≤ 1)
theorem doF_sub (r : Rq) (R : Nat → List Nat) : ∀ v ∈ (doF r R).1.2, ∃ k, k < 4 ∧ v ∈ (doF r R).2 k := by
  have hk := kd_rng r.fc
  intro v hv
  unfold doF at hv ⊢
  by_cases h1 : rightR r = false
  · rw [if_pos h1] at hv; simp at hv
  rw [if_neg h1] at hv ⊢
  by_cases h2 : plB R (kdB r.fc) r.ad (max r.q.toNat 1) = false
  · rw [if_pos h2] at hv; simp at hv
  rw [if_neg h2] at hv ⊢
  by_cases h3 : r.fc = 23
  · rw [if_pos h3] at hv ⊢
    by_cases h4 : plB R 2 r.to r.vn = false
    · rw [if_pos h4] at hv; simp at hv
    rw [if_neg h4] at hv ⊢
    exact ⟨(kdB r.fc).toNat, by omega, List.mem_of_mem_drop (List.mem_of_mem_take hv)⟩
  rw [if_neg h3] at hv ⊢
  simp only at hv ⊢
  split at hv
  · exact ⟨(kdB r.fc).toNat, by omega, List.mem_of_mem_drop (List.mem_of_mem_take hv)⟩
  · simp at hv
theorem spl_mem {L F : List Nat} {o : Nat} (P : Nat → Prop) (hL : ∀ v ∈ L, P v) (hF : ∀ v ∈ F, P v) : ∀ v ∈ splice L o F, P v := by
  intro v hv
  unfold splice at hv
  simp only [List.mem_append] at hv
  rcases hv with h | h | h
  · exact hL v (List.mem_of_mem_take h)
  · exact hF v h
  · exact hL v (List.mem_of_mem_drop h)
theorem fo_bits {r : Rq} (h : rightR r = true) : (kdB r.fc = 0 ∨ kdB r.fc = 1 → r.fc ≠ 22 ∧ ∀ v ∈ r.V, v ≤ 1) ∧ (biF r = true → kdB r.fc = 0 ∨ kdB r.fc = 1) := by
  have ht := rt_of h
  have hk := ht.k
  have hh := (has_iff _ _).1 ht.hh
  have h9 := hh.2.2.2.2.2.2.2.2
  have h7 := hh.2.2.2.2.2.2.1
  unfold biF
  have hV : allB r.V = true → ∀ v ∈ r.V, v ≤ 1 := by
    intro e v hv
    unfold allB at e
    simpa using List.all_eq_true.1 e v hv
  have hE : r.V.length ≤ 0 → ∀ v ∈ r.V, v ≤ 1 := by
    intro e v hv
    have hz : r.V = [] := List.eq_nil_of_length_eq_zero (by omega)
    rw [hz] at hv
    simp at hv
  generalize fo r.fc = f at hk h9 h7
  generalize r.fc = n at hk
  unfold formOf at hk
  unfold kdB
  repeat' split at hk
  all_goals first | (cases hk; done) | skip
  all_goals
    injection hk with hk
    subst hk
    subst n
    simp at h9 h7 ⊢
    first | (intro v hv; exact hV h9 v hv) | (intro v hv; exact hE (by omega) v hv) | (intro v hv; rw [h7] at hv; simp at hv) | skip
theorem doF_bits {r : Rq} {R : Nat → List Nat} (h : BitR R) : BitR (doF r R).2 := by
  by_cases h1 : rightR r = false
  · unfold doF; rw [if_pos h1]; exact h
  have hf := (fo_bits (Bool.not_eq_false _ ▸ h1 : rightR r = true)).1
  have hk := kd_rng r.fc
  unfold doF
  rw [if_neg h1]
  by_cases h2 : plB R (kdB r.fc) r.ad (max r.q.toNat 1) = false
  · rw [if_pos h2]; exact h
  rw [if_neg h2]
  by_cases h3 : r.fc = 23
  · rw [if_pos h3]
    by_cases h4 : plB R 2 r.to r.vn = false
    · rw [if_pos h4]; exact h
    rw [if_neg h4]
    exact ⟨h.1, h.2⟩
  rw [if_neg h3]
  have key : ∀ j, (j = 0 ∨ j = 1) → (∀ v ∈ R j, v ≤ 1) → ∀ v ∈ upR R (kdB r.fc).toNat (wrL r (R (kdB r.fc).toNat) r.ad.toNat (max r.q.toNat 1)) j, v ≤ 1 := by
    intro j hj hR
    unfold upR
    by_cases e : j = (kdB r.fc).toNat
    · rw [if_pos e]
      obtain ⟨h22, hv⟩ := hf (by omega)
      unfold wrL
      rw [if_neg h22, ← e]
      exact spl_mem _ hR (fun v hv' => hv v (List.mem_of_mem_take hv'))
    · rw [if_neg e]; exact hR
  exact ⟨key 0 (.inl rfl) h.1, key 1 (.inr rfl) h.2⟩
theorem wrL_len' (r : Rq) {L : List Nat} {t n : Nat} (h : t + n ≤ L.length) : (wrL r L t n).length = L.length := wrL_len r h
theorem doF_may {r : Rq} {R : Nat → List Nat} (h1 : rightR r = true) (hv : r.vn = r.V.length) (h : BitR R) : okR r (doF r R).1.1 (doF r R).1.2 = true := by
  have hb := doF_bits (r := r) h
  have hf := fo_bits h1
  have hk := kd_rng r.fc
  have hrf := right_facts h1
  have ht := rt_of h1
  have hfr : ∀ X : List Nat, (∀ v ∈ X, v ≤ 1) → allB X = true := by
    intro X hX
    unfold allB
    rw [List.all_eq_true]
    intro v hv
    simpa using hX v hv
  have hq1 : rdF r = true → 1 ≤ r.q := by
    intro e
    have hh := (has_iff _ _).1 ht.hh
    have h5 := hh.2.2.2.2.1
    have hk2 := ht.k
    unfold rdF at e
    generalize fo r.fc = f at h5 hk2 e
    unfold formOf at hk2
    repeat' split at hk2
    all_goals first | (cases hk2; done) | (injection hk2 with hk2; subst hk2; simp at h5 e <;> omega)
  unfold okR
  rw [h1, Bool.true_and]
  have hR : rdF r = true → biF r = true → kdB r.fc = 0 ∨ kdB r.fc = 1 := fun _ e => hf.2 e
  have r23 : r.fc = 23 → rdF r = true := by intro e; unfold rdF; rw [e]; decide
  unfold doF at hb ⊢
  rw [h1] at hb ⊢
  rw [if_neg (by simp)] at hb ⊢
  by_cases h2 : plB R (kdB r.fc) r.ad (max r.q.toNat 1) = false
  · rw [if_pos h2]; unfold mayB; simp [isEx]
  rw [if_neg h2] at hb ⊢
  have h2 := plB_fit (Bool.not_eq_false _ ▸ h2 : plB R (kdB r.fc) r.ad (max r.q.toNat 1) = true)
  have core : ∀ (L : List Nat), L.length = (R (kdB r.fc).toNat).length → rdF r = true → (biF r = true → ∀ v ∈ L, v ≤ 1) → mayB r.q (rdF r) (biF r) 0 ((L.drop r.ad.toNat).take (max r.q.toNat 1)) = true := by
    intro L hL hr hbv
    have := hq1 hr
    unfold mayB
    rw [if_neg (by simp [hr])]
    simp only [Bool.and_eq_true, decide_eq_true_eq, Bool.or_eq_true, Bool.not_eq_true']
    refine ⟨by rw [List.length_take, List.length_drop, hL]; omega, ?_⟩
    cases e : biF r with
    | false => exact .inl rfl
    | true => exact .inr (hfr _ (fun v hv => hbv e v (List.mem_of_mem_drop (List.mem_of_mem_take hv))))
  by_cases h3 : r.fc = 23
  · rw [if_pos h3] at hb ⊢
    have hr := r23 h3
    by_cases h4 : plB R 2 r.to r.vn = false
    · rw [if_pos h4]; unfold mayB; simp [isEx]
    rw [if_neg h4]
    have h4 := plB_fit (Bool.not_eq_false _ ▸ h4 : plB R 2 r.to r.vn = true)
    have hkd : kdB r.fc = 2 := by rw [h3]; rfl
    have hbf : biF r = false := by unfold biF; rw [h3]; rfl
    refine core _ ?_ hr (fun e => by rw [hbf] at e; cases e)
    unfold upR
    split
    · rename_i e; rw [e]; exact wrL_len r h4.2.1
    · rfl
  · rw [if_neg h3] at hb ⊢
    simp only at hb ⊢
    cases hr : (fo r.fc).rd with
    | false => rw [if_neg (by simp)]; unfold mayB; rw [if_pos (.inr (show rdF r = false from hr))]; rfl
    | true =>
      rw [if_pos rfl]
      refine core _ ?_ hr (fun e => ?_)
      · unfold upR; rw [if_pos rfl]; exact wrL_len r h2.2.1
      · rcases hf.2 e with e0 | e0
        · have := hb.1; rw [e0] at this ⊢; exact this
        · have := hb.2; rw [e0] at this ⊢; exact this
theorem doF_err {r : Rq} {R : Nat → List Nat} (h1 : rightR r = true) (hc : (doF r R).1.1 ≠ 0) : (doF r R).1.1 = 2 ∧ (doF r R).2 = R := by
  unfold doF at hc ⊢
  rw [h1] at hc ⊢
  rw [if_neg (by simp)] at hc ⊢
  by_cases h2 : plB R (kdB r.fc) r.ad (max r.q.toNat 1) = false
  · rw [if_pos h2]; exact ⟨rfl, rfl⟩
  rw [if_neg h2] at hc ⊢
  by_cases h3 : r.fc = 23
  · rw [if_pos h3] at hc ⊢
    by_cases h4 : plB R 2 r.to r.vn = false
    · rw [if_pos h4]; exact ⟨rfl, rfl⟩
    · rw [if_neg h4] at hc; simp at hc
  · rw [if_neg h3] at hc; simp at hc
theorem getQ_right {D : List Nat} (h : getC D = 0) : rightR (rqD D) = true ∧ (rqD D).vn = (rqD D).V.length := by
  refine ⟨?_, rfl⟩
  have hq : getQ D = dq (fo ((D.getD 0 0 : Nat) : Int)) D := by unfold getQ; rw [if_pos h]
  unfold getC at h
  split at h
  · cases h
  cases hk : formOf ((D.getD 0 0 : Nat) : Int) with
  | none => rw [hk] at h; simp at h
  | some f =>
    rw [hk] at h
    simp only at h
    have hfo : fo ((D.getD 0 0 : Nat) : Int) = f := by unfold fo; rw [hk]; rfl
    rw [hfo] at hq
    split at h
    · rename_i e1
      split at h
      · rename_i e2
        rw [Bool.and_eq_true] at e1
        have e3 := fld f (r := rqD D) (s := dq f D) (by unfold rqD; rw [hq]; exact ⟨rfl, rfl, rfl, rfl, rfl⟩)
        have hfc : (rqD D).fc = ((D.getD 0 0 : Nat) : Int) := by unfold rqD; rw [hq]; rfl
        unfold rightR
        rw [hfc, hk, hfo, e3.1, e3.2.2, e1.1, e2]
        rfl
      · cases h
    · cases h
def All2P (w : World) (V : List Nat) (e : Ending) (w' : World) : Prop := ∃ a n c, e = .returned (.slice a n c) ∧ ArgW w' a n c V ∧ (∀ b off, a = some ⟨b, off, none⟩ → w.heap.size ≤ b) ∧ Below w.heap.size w w'
set_option maxRecDepth 100000 in
set_option maxHeartbeats 8000000 in
theorem all2_any {B : Nat} {w : World} {p : Nat} {s : Nat → Nat} {R : Nat → List Nat} (h : Bn B w p s R) :
    Calls Try.prog 22 #[.pointer (some ⟨p, 0, none⟩)] w (All2P w (allK R 4)) := by
  obtain ⟨P, hP⟩ : ∃ P, P = (All2P w (allK R 4) : Ending → World → Prop) := ⟨_, rfl⟩
  rw [← hP]
  have H := Lib.hid h
  have FIN : Hid (∀ W v n, n = (allK R 4).length → W.ownsRow w.heap.size 34 1 v n (wv (allK R 4)) → Below w.heap.size w W → P (.returned v) W) := Lib.hid (fun W v n hn ho hb => by
    subst hn
    obtain ⟨a, c, rfl, hA, hnw⟩ := own33_arg ho (allK_wd H.out.wd 4 (Nat.le_refl _))
    rw [hP]; exact ⟨a, _, c, rfl, hA, hnw, hb⟩)
  have LE := Lib.hid (allK_le H.out.len)
  clear h hP
  go_enter Try.func22, Try.ntmps22
  go_wp2_with fail
  go_loopw [3, 4] (fun v iv wr => ∃ (k n : Nat), k ≤ 4 ∧ iv = .int .i64 k ∧ n = (allK R k).length ∧ wr.ownsRow w.heap.size 34 1 v n (wv (allK R k)) ∧ Below w.heap.size w wr) (fun _ iv _ => 4 - (intOf iv).toNat)
  case atStart => exact ⟨0, 0, Nat.zero_le _, rfl, rfl, ownw_none, Below.refl _ _⟩
  case round =>
    obtain ⟨wo, rfl⟩ : ∃ wo : World, wo = wr := ⟨_, rfl⟩
    obtain ⟨k, n, hk, rfl, hn, ho, hb⟩ := hrel
    by_cases hk4 : k < 4
    · have hk1 : (k : Int) < 4 := by omega
      obtain ⟨va, vc, rfl⟩ := own_formW ho
      have HN := Lib.hid hn
      have HO := Lib.hid ho
      have HB := Lib.hid hb
      have SZ := Lib.hid (fun W (hb : Below w.heap.size w W) => size_any (H.out.below hb) (k : Int))
      have hsz : szB R (k : Int) = (R k).length := by unfold szB; rw [if_pos (by omega)]; simp
      rw [hsz] at SZ
      have hl := H.out.len k hk4
      clear hn ho hb hsz
      go_wp2_with fail
      go_loopw [3, 5] (fun v iv wr => ∃ (i m : Nat), i ≤ (R k).length ∧ iv = .int .i64 i ∧ m = n + i ∧ wr.ownsRow w.heap.size 34 1 v m (wv (allK R k ++ (R k).take i)) ∧ Below w.heap.size w wr) (fun _ iv _ => (R k).length - (intOf iv).toNat)
      case atStart => exact ⟨0, n, Nat.zero_le _, rfl, rfl, by simpa using HO.out, HB.out⟩
      case round =>
        obtain ⟨wi, rfl⟩ : ∃ wo : World, wo = wr := ⟨_, rfl⟩
        obtain ⟨i, m, hi, rfl, hm, ho, hb⟩ := hrel
        obtain ⟨xa, xc, rfl⟩ := own_formW ho
        have HO2 := Lib.hid ho
        have HB2 := Lib.hid hb
        have HM := Lib.hid hm
        clear ho hb hm
        go_wp2_with fail
        refine (SZ.out wi HB2.out).mono ?_
        rintro e wx ⟨rfl, rfl⟩
        obtain ⟨q, hq⟩ : ∃ q, q = (R k).length := ⟨_, rfl⟩
        have HQ := Lib.hid hq
        rw [← hq] at hi hl ⊢
        clear hq
        by_cases hiq : i < q
        · have i3 : (i : Int) < 300 := by omega
          have i4 : (i : Int) < (q : Int) := by omega
          have p1 : plB R (k : Int) (i : Int) 1 = true := by unfold plB; have := HQ.out; simp; omega
          have AT := at_any (H.out.below HB2.out) (k : Int) (i : Int) (by omega)
          unfold AtP at AT
          rw [show atB R (k : Int) (i : Int) = (R k).getD i 0 by unfold atB; rw [p1]; simp, p1] at AT
          have hts := take_snocN (R k) i (by have := HQ.out; omega)
          have hv := wgetD_lt (H.out.wd k hk4) i
          generalize (R k).getD i 0 = v at AT hts hv
          have HTS := Lib.hid hts
          have HA := Lib.hid AT
          clear p1 hts AT
          have hmle : m ≤ 2000 := by have := HM.out; have := HN.out; have := LE.out k (by omega); omega
          go_wp2_with fail
          refine HA.out.mono ?_
          rintro e wy ⟨rfl, rfl⟩
          have al := alloc_bq wy (.cells (wv [v]).toArray 34 (0, 0))
          have OA := Lib.hid (own33_keep HO2.out (fun b _ hb => (al.block b hb)))
          have BA := Lib.hid (HB2.out.trans (al.mono HB2.out.size))
          have WA := Lib.hid (argw_new wy [v] (by simp) (by intro b hb; simp at hb; omega)).row
          clear al
          go_wp2_with (at_builtin; refine wpList_append_wds rfl (.tmp 30) (.tmp 32) rfl w.heap.size _ BA.out.size _ m (allK R k ++ (R k).take i) rfl OA.out (some ⟨wy.heap.size, 0, none⟩) 1 1 [v] rfl WA.out (fun e => by cases e) (by omega) ?_)
          intro v4 w4 ho4 hg4 _ _
          have B4 := Lib.hid (BA.out.grown hg4 BA.out.size (fun q hq => (World.ownsRow.lt OA.out q hq).1))
          have O4 : Hid (w4.ownsRow w.heap.size 34 1 v4 (m + 1) (wv (allK R k ++ (R k).take (i + 1)))) := Lib.hid (by rw [HTS.out]; exact ho4)
          clear ho4 hg4
          go_wp2_with fail
          go_roundw
          case rel => exact ⟨i + 1, m + 1, by have := HQ.out; omega, by go_num, by have := HM.out; omega, O4.out, B4.out⟩
          case measure => have := HQ.out; simp [intOf]; omega
        · have hk' : i = q := by omega
          subst hk'
          have O4 : Hid (wx.ownsRow w.heap.size 34 1 (.slice xa m xc) m (wv (allK R (k + 1)))) := Lib.hid (by
            have := HO2.out
            rw [List.take_of_length_le (by have := HQ.out; omega)] at this
            exact this)
          have hm2 : m = (allK R (k + 1)).length := by have := HM.out; have := HN.out; have := HQ.out; simp only [allK, List.length_append]; omega
          have HM2 := Lib.hid hm2
          clear hm2
          go_wp2_with fail
          go_roundw
          case rel => exact ⟨k + 1, m, by omega, by go_num, HM2.out, O4.out, HB2.out⟩
          case measure => simp [intOf]; omega
    · have hk' : k = 4 := by omega
      subst hk'
      have F := Lib.hid (FIN.out wo _ n hn ho hb)
      clear ho hb hn
      go_wp2_with fail
      exact F.out
end Go.Proofs.Ytdolgpogjnfpkaa
/- Slices of bytes that come in; whatever is served is answered: the law's walk. -/
namespace Go.Proofs.Ytdolgpogjnfpkaa
set_option linter.unusedVariables false
set_option linter.unusedSimpArgs false
open Go.ChangeShapes Go.WideShapes Go.ChangeAt Go.RowKit

structure Bo where
  a : Option Addr
  l : Nat
  c : Nat
  L : List Nat
instance : Inhabited Bo := ⟨⟨none, 0, 0, []⟩⟩
def boV (x : Bo) : List Value := [.slice x.a x.l x.c]
structure Bls (w : World) (a : Option Addr) (len : Nat) (g : Nat → Bo) : Prop where
  row : RowS w a len 1 (fun i => boV (g i))
  wf : ∀ i, i < len → ArgB w (g i).a (g i).l (g i).c (g i).L
theorem RowS.below {W w : World} {a : Option Addr} {len sz : Nat} {V : Nat → List Value} (h : RowS W a len sz V) (hb : Below W.heap.size W w) : RowS w a len sz V := by
  refine ⟨h.le, ?_⟩
  rcases h.at' with z | ⟨b, off, ha, hlt, hc⟩
  · exact .inl z
  · exact .inr ⟨b, off, ha, Nat.lt_of_lt_of_le hlt hb.size, fun i hi j hj => (hb.cell (p := ⟨b, off + (i * sz + j), none⟩) hlt).trans (hc i hi j hj)⟩
theorem Bls.below {W w : World} {a : Option Addr} {len : Nat} {g : Nat → Bo} (h : Bls W a len g) (hb : Below W.heap.size W w) : Bls w a len g := ⟨h.row.below hb, fun i hi => (h.wf i hi).below hb⟩
theorem Bls.pos {W : World} {a : Option Addr} {len : Nat} {g : Nat → Bo} (h : Bls W a len g) (hp : 0 < len) : ∃ b off, a = some ⟨b, off, none⟩ ∧ b < W.heap.size ∧ ∀ i, i < len → W.cell? ⟨b, off + i, none⟩ = some (.slice (g i).a (g i).l (g i).c) := by
  obtain ⟨b, off, e, hb, hc⟩ := h.row.pos hp
  refine ⟨b, off, e, hb, fun i hi => ?_⟩
  have := hc i hi 0 (by omega)
  simpa [boV] using this
theorem bls_in {H : Type} {enc : TypeId × Value → H} {w : World} {fuel : Nat} {a : Option Addr} {len cap : Nat} {x : DataW H × List MemPlace} (h : DataW.trod enc Try.prog w 0 (fun _ => true) true fuel 48 [.slice a len cap] = some x) :
    ∃ g : Nat → Bo, Bls w a len g := by
  have hc1 : Try.prog.cellsOf 33 = 1 := by kernel_rfl
  rcases Go.Deep.open_slice Try.underlying48 h with ⟨hcs, _⟩ | ⟨y, l, c, m, n, D, Pl, hcs, _, hl, hm, hmm, hx, hcell⟩
  · simp at hcs
    obtain ⟨rfl, rfl, rfl⟩ := hcs
    exact ⟨fun _ => default, ⟨Nat.zero_le _, .inl rfl⟩, fun i hi => absurd hi (Nat.not_lt_zero _)⟩
  · simp at hcs
    obtain ⟨rfl, rfl, rfl⟩ := hcs
    have hlm : len ≤ m := by simp at hmm; omega
    obtain ⟨V, hV⟩ := Go.Deep.choose_lt (α := List Value) (p := fun i cs' => w.cells? 0 (y.add (i * Try.prog.cellsOf 33)) (Try.prog.cellsOf 33) = some cs' ∧ DataW.trod enc Try.prog w 0 (fun _ => true) true n 33 cs' = some (D i, Pl i)) hcell
    obtain ⟨g, hg⟩ := Go.Deep.choose_lt (α := Bo) (n := len) (p := fun i b => V i = boV b ∧ ArgB w b.a b.l b.c b.L) (fun i hi => by
      have h2 := (hV i (by omega)).2
      have key : ∃ a len cap, V i = [.slice a len cap] := by
        rcases Go.Deep.open_slice Try.underlying33 h2 with ⟨hcs, _⟩ | ⟨y, l', c, m, n, D, Pl, hcs, _⟩
        · exact ⟨none, 0, 0, hcs⟩
        · exact ⟨_, _, _, hcs⟩
      obtain ⟨a', l', c', e⟩ := key
      rw [e] at h2
      obtain ⟨L, hL⟩ := arg_bytes h2
      exact ⟨⟨a', l', c', L⟩, e, hL⟩)
    refine ⟨g, RowS.mk_of (Nat.le_trans hl hm) (by omega) (fun i hi => rfl) (fun i hi j hj => ?_), fun i hi => (hg i hi).2⟩
    have := (World.cells?_some (hV i (by omega)).1).2.2 j (by rw [hc1]; exact hj)
    rw [Go.Deep.add_add, hc1, (hg i hi).1] at this
    exact this
theorem sv_true (a : Option Addr) (n c : Nat) (V : List Nat) (b : Option Addr) (m d : Nat) (w : World) (h : Wds w a n V) (h2 : Wds w b m V) : Calls Try.prog 25 #[.slice a n c, .slice b m d] w (BoolB w true) := by
  have := samevals_any a n c V b m d V w h h2
  rw [decide_eq_true rfl] at this
  exact this
theorem al_of {D : List Nat} {c : Nat} (h1 : 1 ≤ c) (h4 : c ≤ 4) : alN D (c : Int) = [D.getD 0 0 ||| 128, c] := by
  unfold alN isEx
  rw [if_pos (by simp; omega)]
  rfl
theorem repN_by {r : Rq} {w : World} (hr : r.ok w) (h : rightR r = true) {code : Int} {V : List Nat} (hm : mayB r.q (rdF r) (biF r) code V = true) (hV : ∀ v ∈ V, v < 65536) (hl : V.length ≤ 2000) : ∀ b ∈ repN r code V, b < 256 := by
  obtain ⟨hk, hf1, hf2, hq1, hq2⟩ := right_facts h
  have hp : ∀ b ∈ putR (fo r.fc) r, b < 256 := put_by hk hr (rt_of h).hh (by omega) (by omega)
  unfold mayB at hm
  unfold repN
  split
  · rename_i hc
    rw [if_pos (.inl hc)] at hm
    simp [isEx, hc] at hm
    intro b hb
    simp at hb
    omega
  · rename_i hc
    split
    · rename_i hrd
      rw [if_neg (by simp [hrd]; omega)] at hm
      have hft := (fit_of (rt_of h).hh).1.qle
      split
      · rename_i hbi
        intro b hb
        have hb8 := bits_len V
        simp only [List.mem_cons] at hb
        rcases hb with e | e | e
        · omega
        · omega
        · exact bits_by V b e
      · rename_i hbi
        have hq125 : (fo r.fc).q ≤ 125 := by
          unfold rdF at hrd
          unfold biF at hbi
          generalize fo r.fc = f at hk hrd hbi
          unfold formOf at hk
          repeat' split at hk
          all_goals first | (cases hk; done) | (injection hk with hk; subst hk; simp at hrd hbi ⊢)
        simp at hm
        intro b hb
        have hb8 := wb_len V
        simp only [List.mem_cons] at hb
        rcases hb with e | e | e
        · omega
        · omega
        · exact wb_by hV b e
    · split
      · intro b hb
        exact hp b (List.mem_of_mem_take hb)
      · exact hp
theorem getC_le (D : List Nat) : getC D ≤ 3 := by
  unfold getC
  repeat' split
  all_goals omega
set_option maxRecDepth 100000 in
set_option maxHeartbeats 16000000 in
theorem serves_walk (x0 x1 x2 x3 : Int) (a : Option Addr) (len c : Nat) (g : Nat → Bo) (w : World) (h : Bls w a len g) :
    Calls Try.prog 5 #[.agg #[.int .i64 x0, .int .i64 x1, .int .i64 x2, .int .i64 x3], .slice a len c] w (BoolB w true) := by
  obtain ⟨P, hP⟩ : ∃ P, P = (BoolB w true : Ending → World → Prop) := ⟨_, rfl⟩
  rw [← hP]
  have FIN : Hid (∀ W', Below w.heap.size w W' → P (.returned (.bool true)) W') := Lib.hid (fun W' h => by rw [hP]; exact ⟨rfl, h⟩)
  have H := Lib.hid h
  have hle := h.row.le
  unfold maxLen at hle
  clear hP h
  have kb := alloc_bq w (.cells #[.int .i64 x0, .int .i64 x1, .int .i64 x2, .int .i64 x3] 22 (0, 0))
  have kx := heap_alloc_new w (.cells #[.int .i64 x0, .int .i64 x1, .int .i64 x2, .int .i64 x3] 22 (0, 0))
  have KB := Lib.hid kb
  have KX := Lib.hid kx
  clear kb kx
  go_enter Try.func5, Try.ntmps5
  go_wp2_with fail
  refine (head_any _).mono ?_
  rintro e w0 ⟨rfl, z0⟩
  have B0 := Lib.hid (KB.out.trans (Below.mono z0 KB.out.size))
  have k4 : w0.cell? ⟨w.heap.size, 0, none⟩ = some (.int .i64 x0) ∧ w0.cell? ⟨w.heap.size, 1, none⟩ = some (.int .i64 x1) ∧ w0.cell? ⟨w.heap.size, 2, none⟩ = some (.int .i64 x2) ∧ w0.cell? ⟨w.heap.size, 3, none⟩ = some (.int .i64 x3) := by
    have := low_of z0 KX.out
    simp [World.cell?, this]
  obtain ⟨i0, i1, i2, i3⟩ := k4
  clear z0
  go_wp2_with fail
  refine (newb_any x0 x1 x2 x3 w0).mono ?_
  rintro e w1 ⟨p, s, rfl, n1, z1⟩
  obtain ⟨C, hC⟩ : ∃ C, C = w0.heap.size := ⟨_, rfl⟩
  rw [← hC] at n1
  have HC : Hid (w.heap.size ≤ C) := Lib.hid (by rw [hC]; exact B0.out.size)
  have N1 := Lib.hid n1
  have B1 := Lib.hid (B0.out.trans (z1.mono B0.out.size))
  have b1 : BitR (fun j => List.replicate (clB (n4 x0 x1 x2 x3 j)) 0) := ⟨fun v hv => by have := List.eq_of_mem_replicate hv; omega, fun v hv => by have := List.eq_of_mem_replicate hv; omega⟩
  have BI1 := Lib.hid b1
  generalize (fun j => List.replicate (clB (n4 x0 x1 x2 x3 j)) 0) = R1 at N1 BI1
  clear n1 z1 b1 hC i0 i1 i2 i3
  by_cases h40 : 40 < len
  · have d40 : decide ((40 : Int) < (len : Int)) = true := by simp; omega
    go_wp2_with fail
    exact FIN.out _ B1.out
  have d40 : decide ((40 : Int) < (len : Int)) = false := by simp; omega
  go_wp2_with fail
  go_loopw [7] (fun iv wr => ∃ (k : Nat) (R : Nat → List Nat), k ≤ len ∧ iv = .int .i64 k ∧ Bn C wr p s R ∧ BitR R ∧ Below w.heap.size w wr) (fun iv _ => len - (intOf iv).toNat)
  case atStart => exact ⟨0, R1, Nat.zero_le _, rfl, N1.out, BI1.out, B1.out⟩
  case round =>
    obtain ⟨wo, rfl⟩ : ∃ wo : World, wo = wr := ⟨_, rfl⟩
    obtain ⟨k, R, hk, rfl, hN, hBI, hB⟩ := hrel
    have N := Lib.hid hN
    have BI := Lib.hid hBI
    have B := Lib.hid hB
    clear hN hBI hB N1 BI1 B1
    by_cases hkn : k < len
    · obtain ⟨b, off, rfl, hbl, hcc⟩ := H.out.pos (by omega)
      have hw := H.out.wf k hkn
      have hck := hcc k hkn
      generalize g k = gk at hw hck
      obtain ⟨ga, gl, gc, D⟩ := gk
      simp only at hw hck
      have HA := Lib.hid (fun W' (hb : Below w.heap.size w W') => hw.below hb)
      have HCE := Lib.hid (fun W' (hb : Below w.heap.size w W') => (hb.cell (p := ⟨b, off + k, none⟩) hbl).trans hck)
      have e0 := HCE.out wo B.out
      have hkI : (k : Int) < (len : Int) := by omega
      clear hw hck hcc hbl
      by_cases h3 : 3000 < gl
      · have d3 : decide ((3000 : Int) < (gl : Int)) = true := by simp; omega
        go_wp2_with fail
        exact FIN.out _ B.out
      have d3 : decide ((3000 : Int) < (gl : Int)) = false := by simp; omega
      go_wp2_with fail
      refine (all2_any N.out).mono ?_
      rintro e w8 ⟨a8, n8, c8, rfl, A8, nw8, z8⟩
      have N8 := Lib.hid (N.out.below z8)
      have B8 := Lib.hid (B.out.trans (Below.mono z8 B.out.size))
      have hA8 := Lib.hid A8
      have hNW8 : Hid (∀ b off, a8 = some ⟨b, off, none⟩ → b ∉ bl s) := Lib.hid (fun b off e => bl_not N.out (nw8 b off e))
      have e0 := HCE.out w8 B8.out
      have SV := Lib.hid (serve_any N8.out ga gl gc D (HA.out w8 B8.out) (by omega))
      clear A8 nw8 z8
      go_wp2_with fail
      refine SV.out.mono ?_
      rintro e w9 ⟨v9, rfl, o9, n9, f9⟩
      have B9 := Lib.hid (B8.out.trans ((N8.out.step f9).mono HC.out))
      have e0 := HCE.out w9 B9.out
      have HA9 := Lib.hid (hA8.out.fw f9 hNW8.out)
      have O9 := Lib.hid o9
      have N9 := Lib.hid n9
      have GD := Lib.hid (getD_any ga gl gc D w9 (HA.out w9 B9.out) (by omega))
      clear o9 n9 f9 SV
      go_wp2_with fail
      refine GD.out.mono ?_
      rintro e w10 ⟨vs, vn, vc, rfl, A10, z10, _⟩
      have N10 := Lib.hid (N9.out.below z10)
      have B10 := Lib.hid (B9.out.trans (Below.mono z10 B9.out.size))
      have HA10 := Lib.hid (HA9.out.below z10)
      have hby := (HA.out w10 B10.out).row.by'
      have l0 := getD_lt hby 0
      have hc3 := getC_le D
      by_cases hc0 : getC D = 0
      · have hok := getQ_ok A10 hby
        have hvn : vn = (getQ D).V.length := A10.row.ln.symm
        subst hvn
        obtain ⟨hri, _⟩ := getQ_right hc0
        have hmay := doF_may (R := R) hri rfl BI.out
        have herr := doF_err (R := R) hri
        have hbit := doF_bits (r := rqD D) BI.out
        have hsub := doF_sub (rqD D) R
        have hsv : servF D R = (repN (rqD D) (doF (rqD D) R).1.1 (doF (rqD D) R).1.2, (doF (rqD D) R).2) := by
          unfold servF; rw [if_neg (by omega), if_pos hmay]
        rw [hsv] at O9 N10
        generalize doF (rqD D) R = x at hmay herr hbit hsub O9 N10
        obtain ⟨⟨code, V⟩, R2⟩ := x
        simp only at hmay herr hbit hsub O9 N10
        have hV : ∀ v ∈ V, v < 65536 := fun v hv => by
          obtain ⟨j, hj, hm⟩ := hsub v hv
          exact N10.out.wd j hj v hm
        have hmB : mayB (rqD D).q (rdF (rqD D)) (biF (rqD D)) code V = true := by
          have := hmay
          unfold okR at this
          rw [Bool.and_eq_true] at this
          exact this.2
        have hrf := right_facts hri
        have hVl : V.length ≤ 2000 := by
          have hmf := mayB_facts hmB
          by_cases e : code = 0
          · cases e2 : rdF (rqD D) with
            | false => rw [hmf.2.1 e e2]; simp
            | true => have := (hmf.2.2 e e2).1; omega
          · rw [(hmf.1 e).2.2]; simp
        have hlt : ∀ b ∈ repN (wsl (getQ D) vs (getQ D).V.length vc) code V, b < 256 := repN_by hok hri hmB hV hVl
        have al9 := OwnV.argB (L := repN (wsl (getQ D) vs (getQ D).V.length vc) code V) O9.out hlt
        obtain ⟨a9, c9, hv9, hA9, _⟩ := al9
        have hv9' : v9 = .slice a9 (repN (wsl (getQ D) vs (getQ D).V.length vc) code V).length c9 := hv9
        subst hv9'
        have GY := Lib.hid (fun W' (hb : Below w10.heap.size w10 W') => getY_any (wsl (getQ D) vs (getQ D).V.length vc) code V a9 _ c9 W' (hok.below hb) hmay hV (hA9.below (z10.trans (Below.mono hb z10.size))))
        have HERR := Lib.hid herr
        have HBIT := Lib.hid hbit
        rw [show (repN (rqD D) code V) = repN (wsl (getQ D) vs (getQ D).V.length vc) code V from rfl] at *
        rw [hc0]
        clear hok hri hmay herr hbit hsub hsv hV hmB hrf hVl hlt hA9 hby l0 hc3 hc0 A10
        generalize repN (wsl (getQ D) vs (getQ D).V.length vc) code V = RB at *
        generalize hun : (getQ D).V.length = vn at *
        generalize getQ D = gq at *
        obtain ⟨fc, ad, q, us, un, uc, U, rto⟩ := gq
        simp only [rv, wsl] at GY ⊢
        have al := alloc_bq w10 (.cells #[.int .i64 fc, .int .i64 ad, .int .i64 q, .slice vs vn vc, .int .i64 rto] 32 (0, 0))
        have hx := heap_alloc_new w10 (.cells #[.int .i64 fc, .int .i64 ad, .int .i64 q, .slice vs vn vc, .int .i64 rto] 32 (0, 0))
        obtain ⟨W, hW⟩ : ∃ W, W = w10.alloc (.cells #[.int .i64 fc, .int .i64 ad, .int .i64 q, .slice vs vn vc, .int .i64 rto] 32 (0, 0)) := ⟨_, rfl⟩
        rw [← hW] at al hx
        have BW := Lib.hid (B10.out.trans (Below.mono al B10.out.size))
        have NW := Lib.hid (N10.out.below al)
        have HAW := Lib.hid (HA10.out.below al)
        have GYW := Lib.hid (GY.out W al)
        obtain ⟨q0, q1, q2, q3, q4⟩ := cells5 hx
        have HW := Lib.hid hW
        clear z10 al hW hun hx
        go_wp2_with fail
        rw [← HW.out]
        refine GYW.out.mono ?_
        rintro e w11 ⟨a6, n6, c6, rfl, _, z11⟩
        have B11 := Lib.hid (BW.out.trans (Below.mono z11 BW.out.size))
        have N11 := Lib.hid (NW.out.below z11)
        have HA11 := Lib.hid (HAW.out.below z11)
        clear z11 q0 q1 q2 q3 q4
        by_cases hcz : code = 0
        · subst hcz
          rw [if_pos rfl]
          have al := alloc_bq w11 (.cells #[.int .i64 0, .slice a6 n6 c6] 40 (0, 0))
          have B12 := Lib.hid (B11.out.trans (Below.mono al B11.out.size))
          have N12 := Lib.hid (N11.out.below al)
          clear al HERR
          go_wp2_with fail
          go_roundw
          case rel => exact ⟨k + 1, R2, by omega, by go_num, N12.out, HBIT.out, B12.out⟩
          case measure => simp [intOf]; omega
        · rw [if_neg hcz]
          obtain ⟨e1, e2⟩ := HERR.out hcz
          subst e1
          subst e2
          have al := alloc_bq w11 (.cells #[.int .i64 2, .slice a6 n6 c6] 40 (0, 0))
          have hx := heap_alloc_new w11 (.cells #[.int .i64 2, .slice a6 n6 c6] 40 (0, 0))
          obtain ⟨y0, y1⟩ := cells2q hx
          have B12 := Lib.hid (B11.out.trans (Below.mono al B11.out.size))
          have N12 := Lib.hid (N11.out.below al)
          have HA12 := Lib.hid (HA11.out.below al)
          have A2 := Lib.hid (all2_any N12.out)
          clear al hx hcz HERR
          go_wp2_with fail
          refine A2.out.mono ?_
          rintro e w13 ⟨a13, n13, c13, rfl, hA13, _, z13⟩
          have B13 := Lib.hid (B12.out.trans (Below.mono z13 B12.out.size))
          have N13 := Lib.hid (N12.out.below z13)
          have SS := Lib.hid (sv_true a13 n13 c13 _ a8 n8 c8 w13 hA13.row (HA12.out.below z13).row)
          clear hA13 z13 y0 y1
          go_wp2_with fail
          refine SS.out.mono ?_
          rintro e w14 ⟨rfl, z14⟩
          have B14 := Lib.hid (B13.out.trans (Below.mono z14 B13.out.size))
          have N14 := Lib.hid (N13.out.below z14)
          clear z14
          go_wp2_with fail
          go_roundw
          case rel => exact ⟨k + 1, _, by omega, by go_num, N14.out, HBIT.out, B14.out⟩
          case measure => simp [intOf]; omega
      · obtain ⟨cd, hcd⟩ : ∃ cd, cd = getC D := ⟨_, rfl⟩
        have hsv : servF D R = ([D.getD 0 0 ||| 128, cd], R) := by unfold servF; rw [if_pos hc0, ← hcd, al_of (by omega) (by omega)]
        rw [hsv] at O9 N10
        have hlt : ∀ b ∈ [D.getD 0 0 ||| 128, cd], b < 256 := by
          intro b hb
          simp only [List.mem_cons, List.not_mem_nil, or_false] at hb
          rcases hb with e | e
          · rw [e]; exact Nat.or_lt_two_pow (n := 8) l0 (by omega)
          · omega
        have al9 := OwnV.argB O9.out hlt
        obtain ⟨a9, c9, hv9, hA9, _⟩ := al9
        subst hv9
        obtain ⟨SX, hsx⟩ : ∃ S, S = strN [D.getD 0 0 ||| 128, cd] := ⟨_, rfl⟩
        have CV := Lib.hid (fun W' (hb : Below w9.heap.size w9 W') => (by rw [hsx]; exact conv_bys (hA9.row.below hb) : (convert 33 9 (.slice a9 [D.getD 0 0 ||| 128, cd].length c9)).run Try.prog W' = .ok (.string SX) W'))
        have AL := Lib.hid (fun W' (hb : Below w.heap.size w W') => ((alarmD_any ga gl gc D cd (by omega) (by omega) W' (HA.out W' hb).row).mono (fun e w' hq => (by
          obtain ⟨v, rfl, ho, z⟩ := hq
          obtain ⟨a6, c6, rfl, hA6, _⟩ := OwnV.argB ho hlt
          exact ⟨a6, _, c6, rfl, by rw [hsx]; exact conv_bys hA6.row, z⟩ : ∃ a6 m6 c6, e = .returned (.slice a6 m6 c6) ∧ (convert 33 9 (.slice a6 m6 c6)).run Try.prog w' = .ok (.string SX) w' ∧ Below W'.heap.size W' w'))))
        simp only [List.length_cons, List.length_nil] at CV ⊢
        rw [← hcd]
        have t0 : ((cd : Int) != 0) = true := by simp; omega
        have HCD := Lib.hid hcd
        generalize getQ D = gq at *
        obtain ⟨fc, ad, q, us, un, uc, U, rto⟩ := gq
        simp only [rv, wsl]
        have al := alloc_bq w10 (.cells #[.int .i64 fc, .int .i64 ad, .int .i64 q, .slice vs vn vc, .int .i64 rto] 32 (0, 0))
        obtain ⟨W, hW⟩ : ∃ W, W = w10.alloc (.cells #[.int .i64 fc, .int .i64 ad, .int .i64 q, .slice vs vn vc, .int .i64 rto] 32 (0, 0)) := ⟨_, rfl⟩
        rw [← hW] at al
        have Z9 := Lib.hid (z10.trans (Below.mono al z10.size))
        have BW := Lib.hid (B10.out.trans (Below.mono al B10.out.size))
        have NW := Lib.hid (N10.out.below al)
        have HAW := Lib.hid (HA10.out.below al)
        have HW := Lib.hid hW
        clear hby l0 hc3 hc0 hcd hsv hlt hA9 hsx A10 z10 al hW HCD
        go_upto_region 14 with fail
        rw [← HW.out]
        have KS := Lib.hid (fun w' (h : Gd W w') => show w'.cell? ⟨b, off + k, none⟩ = some (.slice ga gl gc) ∧ (convert 33 9 (.slice a9 (0 + 1 + 1) c9)).run Try.prog w' = .ok (.string SX) w' from ⟨HCE.out w' (BW.out.trans (Below.mono h BW.out.size)), CV.out w' (Z9.out.trans (Below.mono h Z9.out.size))⟩)
        have ALW := Lib.hid (fun w' (h : Gd W w') => AL.out w' (BW.out.trans (Below.mono h BW.out.size)))
        have A2 := Lib.hid (fun w' (h : Gd W w') => all2_any (NW.out.below h))
        have SVW := Lib.hid (fun w' a n c (h : Gd W w') (hb : ArgW w' a n c (allK R 4)) => sv_true a n c (allK R 4) a8 n8 c8 w' hb.row (HAW.out.below h).row)
        have g0 : Gd W W.drew := (Below.refl _ _).drew
        have h0 := KS.out _ g0
        go_region_held (fun w' => w'.cell? ⟨b, off + k, none⟩ = some (.slice ga gl gc) ∧ (convert 33 9 (.slice a9 (0 + 1 + 1) c9)).run Try.prog w' = .ok (.string SX) w') (first | exact h0 | exact s11 | exact s12 | exact s13 | go_keep) (first
          | (go_at_call 24; refine (ALW.out _ g0).mono ?_; rintro e w11 ⟨a6, m6, c6, rfl, cv6, z11⟩; have g11 : Gd W w11 := Gd.step g0 z11; have s11 := KS.out _ g11; clear z11)
          | (go_at_call 22; refine (A2.out _ g11).mono ?_; rintro e w12 ⟨a12, n12, c12, rfl, hA12, _, z12⟩; have g12 : Gd W w12 := Gd.step g11 z12; have s12 := KS.out _ g12; have SS := Lib.hid (SVW.out _ _ _ _ g12 hA12); clear z12 hA12)
          | (go_at_call 25; refine SS.out.mono ?_; rintro e w13 ⟨rfl, z13⟩; have g13 : Gd W w13 := Gd.step g12 z13; have s13 := KS.out _ g13; clear z13))
        all_goals
          have G13 := Lib.hid g13
          clear g0 g11 g12 g13 h0 s11 s12 s13
          go_wp2_with fail
          go_roundw
          case rel => exact ⟨k + 1, R, by omega, by go_num, NW.out.below G13.out, BI.out, BW.out.trans (Below.mono G13.out BW.out.size)⟩
          case measure => simp [intOf]; omega
    · have hk' : k = len := by omega
      subst hk'
      go_wp2_with fail
      exact FIN.out _ B.out
theorem array4 {α : Type} {cs : Array α} (h : cs.size = 4) : ∃ c0 c1 c2 c3, cs = #[c0, c1, c2, c3] := by
  obtain ⟨l⟩ := cs
  match l, h with
  | [c0, c1, c2, c3], _ => exact ⟨c0, c1, c2, c3, rfl⟩
theorem arg_sizes {H : Type} {enc : TypeId × Value → H} {W : World} {r : Reach} {b0 : Nat} {v : Value} {d : DataW H} {p : List MemPlace} (hv : Value.okWide Try.prog W r b0 22 v) (h : DataW.Trod enc Try.prog W 0 (fun _ => true) true 22 v d p) :
    ∃ x : Int × Int × Int × Int, v = .agg #[.int .i64 x.1, .int .i64 x.2.1, .int .i64 x.2.2.1, .int .i64 x.2.2.2] ∧ True := by
  simp only [Value.okWide, Try.underlying22] at hv
  obtain ⟨cs, rfl, hsz, _⟩ := hv
  obtain ⟨c0, c1, c2, c3, rfl⟩ := array4 (hsz.trans (show Try.prog.cellsOf 22 = 4 by kernel_rfl))
  obtain ⟨fuel, hf⟩ := h
  obtain ⟨y0, y1, y2, y3, n, _, h0, h1, h2, h3⟩ := trod_array4 Try.underlying22 (by kernel_rfl) (by simpa [Value.cells] using hf)
  obtain ⟨a0, e0, _, _⟩ := DataW.trod_int Try.underlying3 h0
  obtain ⟨a1, e1, _, _⟩ := DataW.trod_int Try.underlying3 h1
  obtain ⟨a2, e2, _, _⟩ := DataW.trod_int Try.underlying3 h2
  obtain ⟨a3, e3, _, _⟩ := DataW.trod_int Try.underlying3 h3
  simp at e0 e1 e2 e3
  subst e0 e1 e2 e3
  exact ⟨(a0, a1, a2, a3), rfl, trivial⟩
end Go.Proofs.Ytdolgpogjnfpkaa
