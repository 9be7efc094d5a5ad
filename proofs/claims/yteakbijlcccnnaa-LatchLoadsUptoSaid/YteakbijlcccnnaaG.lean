/- Load. -/
import Derived.Test.YteakbijlcccnnaaF
namespace Go.Proofs.Yteakbijlcccnnaa
set_option linter.unusedVariables false
open Go.ChangeShapes Go.WideShapes Go.ChangeAt Go.RowKit

theorem Mb.put3 {w : World} {mb n k : Nat} {G : List Int} {S S' : List La} {x : La} (h : Mb w mb n G S) (hk : k < n) (hx : x.fi = false) (h1 : (sg S' k).st = x.st) (h2 : (sg S' k).tm = x.tm) (ho : ∀ i, i < n → i ≠ k → (sg S' i).st = (sg S i).st ∧ (sg S' i).tm = (sg S i).tm) : Mb (set3 w mb (k * 4) x) mb n G S' := by
  obtain ⟨arr, a1, a2⟩ := h
  have hs : k * 4 + 2 < arr.size := by
    have := a2 k hk 2 (by omega)
    simp [mc] at this
    exact (Array.getElem?_eq_some_iff.1 this).1
  refine ⟨_, set3_block a1, fun i hi j hj => ?_⟩
  rw [set3_at hs]
  have q := a2 i hi j hj
  by_cases e : i = k
  · subst e
    have hsg : mc G S' i = [.bool x.st, .int .i64 x.tm, .bool x.fi, .int .i64 (gg G i)] := by
      unfold mc; rw [h1, h2, hx]
    rw [hsg]
    match j, hj with
    | 0, _ => rw [if_pos (by omega)]; rfl
    | 1, _ => rw [if_neg (by omega), if_pos (by omega)]; rfl
    | 2, _ => rw [if_neg (by omega), if_neg (by omega), if_pos (by omega)]; rfl
    | 3, _ => rw [if_neg (by omega), if_neg (by omega), if_neg (by omega), q]; rfl
  · have hsg : mc G S' i = mc G S i := by
      unfold mc
      rw [(ho i hi e).1, (ho i hi e).2]
    rw [if_neg (by omega), if_neg (by omega), if_neg (by omega), hsg]
    exact q
def mix (L S : List La) (k : Nat) : List La := L.take k ++ S.drop k
theorem mix_sg (L S : List La) (k i : Nat) (hk : k ≤ L.length) : sg (mix L S k) i = if i < k then sg L i else sg S i := by
  unfold mix sg
  simp only [List.getD]
  rw [List.getElem?_append]
  by_cases e : i < k
  · rw [if_pos (by simp; omega), if_pos e, List.getElem?_take_of_lt e]
  · rw [if_neg (by simp; omega), if_neg e, List.getElem?_drop]
    congr 2
    simp; omega
theorem mix_full (L S : List La) (h : S.length = L.length) : mix L S L.length = L := by
  unfold mix; rw [List.take_length, ← h, List.drop_length, List.append_nil]
def Fk (G : List Int) (L : List La) (k : Nat) (g : Int) : Option Value := (fok G L k g).map fun i : Nat => Value.int .i64 (i : Int)
def fkV (G : List Int) (L : List La) (k : Nat) (g : Int) : Value := .tuple #[(Fk G L k g).getD (.int .i64 0), .bool (fok G L k g).isSome]
theorem Okk.zero (G : List Int) (L : List La) : Okk G L 0 := ⟨fun i h => by omega, fun i h => by omega, fun i j h => by omega⟩
theorem Okk.mono {G : List Int} {L : List La} {n k : Nat} (h : Okk G L n) (hk : k ≤ n) : Okk G L k := ⟨fun i q => h.ze i (by omega), fun i q => h.gr i (by omega), fun i j q1 q2 => h.un i j (by omega) (by omega)⟩
theorem Okk.keep {G : List Int} {L : List La} {k : Nat} (h : Okk G L k) (hz : (sg L k).st = false → sg L k = La.z) (hf : (sg L k).fi = false) : Okk G L (k + 1) := by
  refine ⟨fun i hi => ?_, fun i hi hfi => ?_, fun i j hi hj a b => ?_⟩
  · by_cases e : i = k
    · subst e; exact hz
    · exact h.ze i (by omega)
  · have : i ≠ k := by rintro rfl; rw [hf] at hfi; cases hfi
    exact h.gr i (by omega) hfi
  · have e1 : i ≠ k := by rintro rfl; rw [hf] at a; cases a
    have e2 : j ≠ k := by rintro rfl; rw [hf] at b; cases b
    exact h.un i j (by omega) (by omega) a b
theorem Okk.add {G : List Int} {L : List La} {k : Nat} (h : Okk G L k) (hz : (sg L k).st = false → sg L k = La.z) (hg : gg G k ≠ 0) (hn : fok G L k (gg G k) = none) : Okk G L (k + 1) := by
  refine ⟨fun i hi => ?_, fun i hi hfi => ?_, fun i j hi hj a b e => ?_⟩
  · by_cases e : i = k
    · subst e; exact hz
    · exact h.ze i (by omega)
  · by_cases e : i = k
    · subst e; exact hg
    · exact h.gr i (by omega) hfi
  · by_cases e1 : i = k
    · by_cases e2 : j = k
      · omega
      · subst e1; exact absurd e.symm (fok_none hn j (by omega) b)
    · by_cases e2 : j = k
      · subst e2; exact absurd e (fok_none hn i (by omega) a)
      · exact h.un i j (by omega) (by omega) a b e
theorem Fk_keep {G : List Int} {L : List La} {k : Nat} (hf : (sg L k).fi = false) (g : Int) : Fk G L (k + 1) g = Fk G L k g := by
  unfold Fk; rw [fok_succ, if_neg (by simp [hf]), Option.or_none]
theorem Fk_add {G : List Int} {L : List La} {k : Nat} (hf : (sg L k).fi = true) (hn : fok G L k (gg G k) = none) (g : Int) : Fk G L (k + 1) g = if g = gg G k then some (.int .i64 (k : Int)) else Fk G L k g := by
  unfold Fk; rw [fok_succ]
  by_cases e : g = gg G k
  · subst e; rw [if_pos ⟨hf, rfl⟩, if_pos rfl, hn]; rfl
  · rw [if_neg (fun q => e q.2.symm), if_neg e, Option.or_none]

def LoadP (B : Nat) (w : World) (t mb n : Nat) (G : List Int) (S L : List La) (e : Ending) (w' : World) : Prop :=
  (e = .returned (.bool false) ∧ ¬ Ok G L ∧ Below w.heap.size w w') ∨ (e = .returned (.bool true) ∧ Ok G L ∧ (∃ m', w.heap.size ≤ m' ∧ Lt B w' t m' mb n n G L) ∧ Fs [t, mb] w w')
set_option maxRecDepth 100000 in
set_option maxHeartbeats 2000000 in
theorem load_any {B t m mb cn n : Nat} {w : World} {G : List Int} {S : List La} (h : Lt B w t m mb cn n G S) (a : Option Addr) (l c : Nat) (L : List La) (hL : Lr w a l L) (hne : ∀ b off, a = some ⟨b, off, none⟩ → 0 < l → b ≠ t ∧ b ≠ mb) :
    Calls Try.prog 12 #[.pointer (some ⟨t, 0, none⟩), .slice a l c] w (LoadP B w t mb n G S L) := by
  obtain ⟨ma, mc0, c0, c1, f0, f1, e0, h1, h2, h3⟩ := h.cells
  have hll := hL.le
  unfold maxLen at hll
  have hmm := @run_makeMap Try.prog
  by_cases hq : l = n
  · subst hq
    have hsz := h.lt
    have HL := Lib.hid hL
    have H := Lib.hid h
    have HE := Lib.hid e0
    have NE := Lib.hid hne
    have hm0 : IMap Try.prog 3 (w.alloc (.map #[] 0)) w.heap.size 0 (Fk G L 0) := (imap_made w Try.prog 3).congr fun g => rfl
    have M0 := Lib.hid hm0
    obtain ⟨lt1, lt2, lt3⟩ := hsz
    clear h hL e0 hne hm0 lt3
    go_enter Try.func12, Try.ntmps12
    go_wp2_with fail
    go_loopw [24] (fun i wr => ∃ k : Nat, k ≤ l ∧ i = .int .i64 k ∧ IMap Try.prog 3 wr w.heap.size k (Fk G L k) ∧ Okk G L k ∧ Fs [w.heap.size] (w.alloc (.map #[] 0)) wr) (fun i _ => l - (intOf i).toNat)
    case atStart => exact ⟨0, Nat.zero_le _, rfl, M0.out, Okk.zero _ _, Fs.refl _ _⟩
    case round =>
      obtain ⟨wo, rfl⟩ : ∃ wo : World, wo = wr := ⟨_, rfl⟩
      obtain ⟨k, hk, rfl, hM, hO, hF⟩ := hrel
      have hbw : Below w.heap.size w wo := (alloc_b w _).trans (hF.below (by simp) (by simp))
      have hT : Lt B wo t m mb cn l G S := (H.out.below (alloc_b w (.map #[] 0))).fs hF (by simp; omega) (by simp; omega) (fun h0 => by have := H.out.lt.2.2 h0; simp; omega)
      have hBL : ∀ b off, a = some ⟨b, off, none⟩ → 0 < l → b < w.heap.size := fun b off e h0 => by
        obtain ⟨b', off', e', q, _⟩ := HL.out.pos h0
        rw [e] at e'; simp only [Option.some.injEq, Addr.mk.injEq, and_true] at e'; omega
      have hLo : Lr wo a l L := (HL.out.below (alloc_b w (.map #[] 0))).keep hF.size (fun b off e h0 => hF.block b (by have := hBL b off e h0; simp; omega) (by have := hBL b off e h0; simp; omega))
      by_cases hkn : k < l
      · obtain ⟨b, off, ha, hblt, hcs⟩ := hLo.pos (by omega)
        obtain ⟨x0, x1, x2⟩ := hcs k hkn
        subst ha
        obtain ⟨c', c0', c1', f0', f1', h1', h2', h3', q0, q1, q2, q3, g0, g1, g2⟩ := hT.mem hkn
        have hwg := hT.wg k
        have hBad : ¬ Okk G L (k + 1) → ¬ Ok G L := fun q1 q2 => q1 (q2.ok.mono (by rw [H.out.ln]; omega))
        have hze : ∀ i, i < k + 1 → i = k ∨ i < k := fun i hi => by omega
        obtain ⟨z, hz⟩ : ∃ z, z = sg L k := ⟨_, rfl⟩
        rw [← hz] at x0 x1 x2
        have hzz : Okk G L (k + 1) → z.st = false → z = La.z := fun q1 q2 => by rw [hz] at q2 ⊢; exact q1.ze k (by omega) q2
        have hgr : Okk G L (k + 1) → z.fi = true → gg G k ≠ 0 := fun q1 q2 => by rw [hz] at q2; exact q1.gr k (by omega) q2
        have hno : ∀ j, Okk G L (k + 1) → z.fi = true → fok G L k (gg G k) = some j → False := fun j q1 q2 q3 => by
          obtain ⟨r1, r2, r3⟩ := fok_some q3
          rw [hz] at q2
          have := q1.un j k (by omega) (by omega) r2 q2 r3
          omega
        have hkeep : (z.st = false → z = La.z) → z.fi = false → Okk G L (k + 1) := fun q1 q2 => by rw [hz] at q1 q2; exact hO.keep q1 q2
        have hadd : (z.st = false → z = La.z) → gg G k ≠ 0 → fok G L k (gg G k) = none → Okk G L (k + 1) := fun q1 q2 q3 => by rw [hz] at q1; exact hO.add q1 q2 q3
        have hFk : z.fi = false → ∀ g, Fk G L (k + 1) g = Fk G L k g := fun q g => by rw [hz] at q; exact Fk_keep q g
        have hFa : z.fi = true → fok G L k (gg G k) = none → ∀ g, Fk G L (k + 1) g = if g = gg G k then some (.int .i64 (k : Int)) else Fk G L k g := fun q1 q2 g => by rw [hz] at q1; exact Fk_add q1 q2 g
        have M := Lib.hid hM
        have O := Lib.hid hO
        have F := Lib.hid hF
        have BW := Lib.hid hbw
        have Z1 := Lib.hid hzz
        have Z2 := Lib.hid hgr
        have Z3 := Lib.hid hno
        have Z4 := Lib.hid hkeep
        have Z5 := Lib.hid hadd
        have Z6 := Lib.hid hFk
        have Z7 := Lib.hid hFa
        have BAD := Lib.hid hBad
        have HT := Lib.hid hT
        have RET := Lib.hid (fun (q : ¬ Okk G L (k + 1)) (w' : World) (q2 : Below w.heap.size w w') => show LoadP B w t mb l G S L (.returned (.bool false)) w' from .inl ⟨rfl, hBad q, q2⟩)
        clear hM hO hF hbw hzz hgr hno hkeep hadd hFk hFa hBad hT hLo hBL hcs hz hze
        obtain ⟨s, x, f⟩ := z
        simp only at x0 x1 x2
        cases hs : s with
        | false =>
          subst hs
          cases hx : (x == 0) with
          | false =>
            have HP := Lib.hid (RET.out (fun q => by have := Z1.out q rfl; unfold La.z at this; simp at this; simp [this.1] at hx) (wo.alloc (.cells #[.bool false, .int .i64 x, .bool f] 37 (0, 0))) (BW.out.alloc BW.out.size _))
            go_wp2_with fail
            go_ret
            exact HP.out
          | true =>
            cases hf : f with
            | true =>
              subst hf
              have HP := Lib.hid (RET.out (fun q => by have := Z1.out q rfl; unfold La.z at this; simp at this) (wo.alloc (.cells #[.bool false, .int .i64 x, .bool true] 37 (0, 0))) (BW.out.alloc BW.out.size _))
              go_wp2_with fail
              go_ret
              exact HP.out
            | false =>
              subst hf
              have hx0 : x = 0 := by simpa using hx
              subst hx0
              have M1 := Lib.hid (((M.out.below (alloc_b wo (.cells #[.bool false, .int .i64 0, .bool false] 37 (0, 0)))).mono (Nat.le_succ k)).congr (Z6.out rfl))
              have O1 := Lib.hid (Z4.out (fun _ => rfl) rfl)
              have F1 := Lib.hid (F.out.trans (Fs.of_below (alloc_b wo (.cells #[.bool false, .int .i64 0, .bool false] 37 (0, 0)))))
              clear hx
              go_wp2_with fail
              go_roundw
              case rel => exact ⟨k + 1, by omega, by go_num, M1.out, O1.out, F1.out⟩
              case measure => simp [intOf]; omega
        | true =>
          subst hs
          cases hf : f with
          | false =>
            subst hf
            have M1 := Lib.hid (((M.out.below (alloc_b wo (.cells #[.bool true, .int .i64 x, .bool false] 37 (0, 0)))).mono (Nat.le_succ k)).congr (Z6.out rfl))
            have O1 := Lib.hid (Z4.out (fun q => by cases q) rfl)
            have F1 := Lib.hid (F.out.trans (Fs.of_below (alloc_b wo (.cells #[.bool true, .int .i64 x, .bool false] 37 (0, 0)))))
            go_wp2_with fail
            go_roundw
            case rel => exact ⟨k + 1, by omega, by go_num, M1.out, O1.out, F1.out⟩
            case measure => simp [intOf]; omega
          | true =>
            subst hf
            have MA := M.out.below (alloc_b wo (.cells #[.bool true, .int .i64 x, .bool true] 37 (0, 0)))
            have hlk := MA.look_ok (t := 45) (e := 3) Try.underlying45 Try.underlying3 (zero3 _) hwg
            have BA := Lib.hid (BW.out.alloc BW.out.size (.cells #[.bool true, .int .i64 x, .bool true] 37 (0, 0)))
            have ltt := HT.out.lt.1
            have ltm := HT.out.lt.2.2 (by omega)
            unfold Fk at hlk
            cases hfo : fok G L k (gg G k) with
            | some j =>
              rw [hfo] at hlk
              simp only [Option.map_some, Option.getD_some, Option.isSome_some] at hlk
              have HP := Lib.hid (RET.out (fun q => Z3.out j q rfl hfo) (wo.alloc (.cells #[.bool true, .int .i64 x, .bool true] 37 (0, 0))) BA.out)
              clear MA hfo
              generalize gg G k = g at *
              go_wp2_with fail
              go_ret
              exact HP.out
            | none =>
              rw [hfo] at hlk
              simp only [Option.map_none, Option.getD_none, Option.isSome_none] at hlk
              cases hg : (gg G k == 0) with
              | true =>
                have HP := Lib.hid (RET.out (fun q => Z2.out q rfl (by simpa using hg)) (wo.alloc (.cells #[.bool true, .int .i64 x, .bool true] 37 (0, 0))) BA.out)
                clear MA hfo
                generalize gg G k = g at *
                go_wp2_with fail
                go_ret
                exact HP.out
              | false =>
                obtain ⟨w5, hrun, him, htu⟩ := MA.put (t := 45) (e := 3) Try.underlying45 Try.underlying3 (by unfold maxLen; omega) hwg (.int .i64 (k : Int))
                have M1 := Lib.hid (him.congr (Z7.out rfl hfo))
                have O1 := Lib.hid (Z5.out (fun q => by cases q) (by simpa using hg) hfo)
                have F1 := Lib.hid ((F.out.trans (Fs.of_below (alloc_b wo (.cells #[.bool true, .int .i64 x, .bool true] 37 (0, 0))))).trans (Fs.turned htu))
                clear MA hfo him htu
                generalize gg G k = g at *
                go_wp2_with fail
                go_roundw
                case rel => exact ⟨k + 1, by omega, by go_num, M1.out, O1.out, F1.out⟩
                case measure => simp [intOf]; omega
      · have hk' : k = l := by omega
        subst hk'
        have hok : Ok G L := ⟨by rw [HL.out.ln, H.out.ln], by rw [H.out.ln]; exact hO⟩
        obtain ⟨ma', c', k0, k1, k2, k3⟩ := hT.blk
        have e1 : wo.cell? ⟨t, 0, none⟩ = some (.slice ma' k c') := by simp [World.cell?, k0]
        have e2 : wo.cell? ⟨t, 1, none⟩ = some (.map (some m)) := by simp [World.cell?, k0]
        have e3 : wo.frozen? ⟨t, 1, none⟩ = false := by simp [World.frozen?, k0]
        have f3 := Fs.set wo t 1 (.map (some w.heap.size))
        have hb3 : (wo.setCell ⟨t, 1, none⟩ (.map (some w.heap.size))).heap[t]? = some (.cells #[.slice ma' k c', .map (some w.heap.size)] 48 (0, 0)) := set_block k0 1 _
        have m3 : IMap Try.prog 3 (wo.setCell ⟨t, 1, none⟩ (.map (some w.heap.size))) w.heap.size k (Fm G L) := (hM.congr fun g => by unfold Fm Fk fo; rw [H.out.ln]).same (f3.block _ hM.lt (by simp; omega))
        have r3 : 0 < k → Mb (wo.setCell ⟨t, 1, none⟩ (.map (some w.heap.size))) mb k G (mix L S 0) := fun h0 => ((hT.row h0).same (f3.block mb (hT.lt.2.2 h0) (by have := hT.apart.2 h0; simp; omega)))
        have s3 : Fs [t, mb] w (wo.setCell ⟨t, 1, none⟩ (.map (some w.heap.size))) := (Fs.of_below hbw).trans (f3.mono (by simp))
        have hmne : mb ≠ w.heap.size ∨ k = 0 := by
          by_cases h0 : 0 < k
          · have := H.out.lt.2.2 h0; left; omega
          · right; omega
        have FIN : Hid (∀ w', w'.heap[t]? = some (.cells #[.slice ma' k c', .map (some w.heap.size)] 48 (0, 0)) → (0 < k → Mb w' mb k G L) → IMap Try.prog 3 w' w.heap.size k (Fm G L) → Fs [t, mb] w w' → LoadP B w t mb k G S L (.returned (.bool true)) w') := Lib.hid (fun w' a1 a2 a3 a4 => .inr ⟨rfl, hok, ⟨w.heap.size, Nat.le_refl _, ⟨H.out.ht, by have := H.out.ht; omega, H.out.hb, H.out.ln, H.out.le, H.out.wg, HL.out.wt, hok, ⟨ma', c', a1, k1, k2, k3⟩, a2, a3⟩⟩, a4⟩)
        have apt := hT.apart
        have K1 := Lib.hid k1
        have KC := k2
        unfold maxLen at k3
        have B3 := Lib.hid hb3
        have M3 := Lib.hid m3
        have R3 := Lib.hid r3
        have S3 := Lib.hid s3
        have ltt := hT.lt.1
        have hSl := H.out.ok.ln
        rw [H.out.ln] at hSl
        clear hM hO hF hbw hT hLo hok k0 k1 f3 hb3 m3 r3 s3
        go_wp2_with fail
        go_loopw [69] (fun i wr => ∃ j : Nat, j ≤ k ∧ i = .int .i64 j ∧ wr.heap[t]? = some (.cells #[.slice ma' k c', .map (some w.heap.size)] 48 (0, 0)) ∧ (0 < k → Mb wr mb k G (mix L S j)) ∧ IMap Try.prog 3 wr w.heap.size k (Fm G L) ∧ Fs [t, mb] w wr) (fun i _ => k - (intOf i).toNat)
        case atStart => exact ⟨0, Nat.zero_le _, rfl, B3.out, R3.out, M3.out, S3.out⟩
        case round =>
          obtain ⟨wq, rfl⟩ : ∃ wq : World, wq = wr := ⟨_, rfl⟩
          obtain ⟨j, hj, rfl, hb4, hr4, hm4, hs4⟩ := hrel
          have hLq : Lr wq a k L := HL.out.keep hs4.size (fun b off e h0 => hs4.block b (hBL b off e h0) (by have := NE.out b off e h0; simp; exact this))
          by_cases hjk : j < k
          · obtain ⟨b, off, ha, hblt, hcs⟩ := hLq.pos (by omega)
            obtain ⟨x0, x1, x2⟩ := hcs j hjk
            subst ha
            obtain ⟨q0, q1, q2, q3, g0, g1, g2⟩ := (hr4 (by omega)).cells hjk
            have t0 : wq.cell? ⟨t, 0, none⟩ = some (.slice (some ⟨mb, 0, none⟩) k c') := by simp [World.cell?, hb4, K1.out (by omega)]
            have ltt2 := blk_lt hb4
            have ltm2 := (hr4 (by omega)).lt
            have hmne' : mb ≠ w.heap.size := hmne.resolve_right (by omega)
            have apt2 := (apt.2 (by omega)).1
            have W5 := set3_fs wq mb (j * 4) ⟨(sg L j).st, (sg L j).tm, false⟩
            have hz : (set3 wq mb (j * 4) ⟨(sg L j).st, (sg L j).tm, false⟩).heap.size = wq.heap.size := by simp [set3, World.setCell]
            have hb : Below wq.heap.size (set3 wq mb (j * 4) ⟨(sg L j).st, (sg L j).tm, false⟩) ((set3 wq mb (j * 4) ⟨(sg L j).st, (sg L j).tm, false⟩).alloc (.cells #[.bool (sg L j).st, .int .i64 (sg L j).tm, .bool (sg L j).fi] 37 (0, 0))).drew := by rw [← hz]; exact (alloc_b _ _).drew
            have r5 : 0 < k → Mb ((set3 wq mb (j * 4) ⟨(sg L j).st, (sg L j).tm, false⟩).alloc (.cells #[.bool (sg L j).st, .int .i64 (sg L j).tm, .bool (sg L j).fi] 37 (0, 0))).drew mb k G (mix L S (j + 1)) := fun h0 =>
              ((hr4 h0).put3 hjk rfl (by rw [mix_sg _ _ _ _ (by rw [HL.out.ln]; omega), if_pos (by omega)]) (by rw [mix_sg _ _ _ _ (by rw [HL.out.ln]; omega), if_pos (by omega)]) (fun i hi e => by
                rw [mix_sg _ _ _ _ (by rw [HL.out.ln]; omega), mix_sg _ _ _ _ (by rw [HL.out.ln]; omega)]
                by_cases q : i < j
                · rw [if_pos (by omega), if_pos q]; exact ⟨rfl, rfl⟩
                · rw [if_neg (by omega), if_neg q]; exact ⟨rfl, rfl⟩)).same (hb.block mb ltm2)
            have b5 := ((hb.block t ltt2).trans (W5.block t ltt2 (by simp; exact apt2))).trans hb4
            have m5 := (hm4.same (W5.block w.heap.size hm4.lt (by simp; omega))).below (hz.symm ▸ hb)
            have s5 := (hs4.trans (W5.mono (by simp))).trans (Fs.of_below (hz.symm ▸ hb))
            have R5 := Lib.hid r5
            have B5 := Lib.hid b5
            have M5 := Lib.hid m5
            have S5 := Lib.hid s5
            clear hb4 hr4 hm4 hs4 hLq hcs hb hz W5 r5 b5 m5 s5
            generalize (sg L j).st = s at *
            generalize (sg L j).tm = x at *
            generalize (sg L j).fi = f at *
            go_wp2_with fail
            go_region
            all_goals
              go_wp2_with fail
              go_roundw
              case rel => exact ⟨j + 1, by omega, by go_num, B5.out, R5.out, M5.out, S5.out⟩
              case measure => simp [intOf]; omega
          · have hj' : j = k := by omega
            subst hj'
            have HP := Lib.hid (FIN.out wq hb4 (fun h0 => by have := hr4 h0; rwa [show mix L S j = L by have := HL.out.ln; subst this; exact mix_full L S hSl] at this) hm4 hs4)
            clear hb4 hr4 hm4 hs4 hLq
            go_wp2_with fail
            go_ret
            exact HP.out
  · have d1 : decide (l = n) = false := by simpa using hq
    have HP : Hid (LoadP B w t mb n G S L (.returned (.bool false)) w) := Lib.hid (.inl ⟨rfl, fun q => hq (by rw [← hL.ln, q.ln, h.ln]), Below.refl _ _⟩)
    clear h hL e0 hne
    go_enter Try.func12, Try.ntmps12
    go_wp2_with fail
    go_ret
    exact HP.out
end Go.Proofs.Yteakbijlcccnnaa
