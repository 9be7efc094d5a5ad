/- words, counted. -/
import Derived.Test.YtdolgpogjnfpkaaC
namespace Go.Proofs.Ytdolgpogjnfpkaa
set_option linter.unusedVariables false
open Go.ChangeShapes Go.WideShapes Go.ChangeAt Go.RowKit

/-- Words in bytes, the high one first. -/
def wb (V : List Nat) : List Nat := V.flatMap fun v => [v / 256, v % 256]
theorem wb_len (V : List Nat) : (wb V).length = 2 * V.length := by
  induction V with
  | nil => rfl
  | cons x V ih => simp only [wb, List.flatMap_cons, List.length_append] at ih ⊢; rw [ih]; simp; omega
theorem wb_app (V U : List Nat) : wb (V ++ U) = wb V ++ wb U := by simp [wb]
theorem wb_one (v : Nat) : wb [v] = [v / 256, v % 256] := by simp [wb]
theorem wb_by {V : List Nat} (h : ∀ v ∈ V, v < 65536) : ∀ b ∈ wb V, b < 256 := by
  intro b hb
  simp only [wb, List.mem_flatMap] at hb
  obtain ⟨v, hv, hb⟩ := hb
  have := h v hv
  simp at hb
  omega
theorem take_snoc' (F : List Nat) (k : Nat) (h : k < F.length) : F.take (k + 1) = F.take k ++ [F.getD k 0] := by
  rw [List.take_succ_eq_append_getElem h]
  simp [List.getD, List.getElem?_eq_getElem h]
/-- Bytes that are at hand: a row that the call owns, or nothing. -/
def OwnV (B : Nat) (w : World) (v : Value) (L : List Nat) : Prop := w.ownsRow B 5 1 v L.length (bv L)
theorem own_keep {B : Nat} {w w' : World} {v : Value} {n : Nat} {L : List Value} (h : w.ownsRow B 5 1 v n L) (hb : Below w.heap.size w w') : w'.ownsRow B 5 1 v n L := by
  obtain ⟨hl, q | ⟨g, cap, cur, hv, hg, hbk, r⟩⟩ := h
  · exact ⟨hl, .inl q⟩
  · exact ⟨hl, .inr ⟨g, cap, cur, hv, hg, (hb.block g (blk_lt hbk)).trans hbk, r⟩⟩
theorem own_form {B : Nat} {w : World} {v : Value} {n : Nat} {L : List Value} (h : w.ownsRow B 5 1 v n L) : ∃ a c, v = .slice a n c := by
  rcases h.2 with ⟨h, h0⟩ | ⟨g, cap, cur, h, _⟩
  · exact ⟨none, 0, by rw [h, h0]⟩
  · exact ⟨_, _, h⟩
def WordsP (B : Nat) (w : World) (L : List Nat) (e : Ending) (w' : World) : Prop := ∃ v', e = .returned v' ∧ OwnV B w' v' L ∧ Below B w w'

/-- Numbers of an int each, that fit 16 bits. -/
structure Ixs (W : World) (a : Option Addr) (len : Nat) (L : List Nat) : Prop where
  ln : L.length = len
  le : len ≤ maxLen
  by' : ∀ b ∈ L, b < 65536
  at' : len = 0 ∨ ∃ b off, a = some ⟨b, off, none⟩ ∧ b < W.heap.size ∧ ∀ i, i < len → W.cell? ⟨b, off + i, none⟩ = some (.int .i64 ((L.getD i 0 : Nat) : Int))
theorem Ixs.pos {W : World} {a : Option Addr} {len : Nat} {L : List Nat} (h : Ixs W a len L) (hp : 0 < len) : ∃ b off, a = some ⟨b, off, none⟩ ∧ b < W.heap.size ∧ ∀ i, i < len → W.cell? ⟨b, off + i, none⟩ = some (.int .i64 ((L.getD i 0 : Nat) : Int)) := by
  rcases h.at' with z | z
  · omega
  · exact z
theorem ixs_one {W : World} {g : Nat} {t : TypeId} {m : Nat × Nat} (x : Nat) (hx : x < 65536) (h : W.heap[g]? = some (.cells #[.int .i64 (x : Int)] t m)) : Ixs W (some ⟨g, 0, none⟩) 1 [x] := by
  refine ⟨rfl, by unfold maxLen; omega, by simpa using hx, .inr ⟨g, 0, rfl, blk_lt h, fun i hi => ?_⟩⟩
  obtain rfl : i = 0 := by omega
  simp [World.cell?, h]
theorem ixs_two {W : World} {g : Nat} {t : TypeId} {m : Nat × Nat} (x y : Nat) (hx : x < 65536) (hy : y < 65536) (h : W.heap[g]? = some (.cells #[.int .i64 (x : Int), .int .i64 (y : Int)] t m)) : Ixs W (some ⟨g, 0, none⟩) 2 [x, y] := by
  refine ⟨rfl, by unfold maxLen; omega, by simp [hx, hy], .inr ⟨g, 0, rfl, blk_lt h, fun i hi => ?_⟩⟩
  rcases (by omega : i = 0 ∨ i = 1) with rfl | rfl <;> simp [World.cell?, h]
set_option maxRecDepth 100000 in
set_option maxHeartbeats 4000000 in
theorem words16_any (B : Nat) (v : Value) (L : List Nat) (a : Option Addr) (n c : Nat) (V : List Nat) (w : World) (hB : B ≤ w.heap.size) (ho : OwnV B w v L) (h : Wds w a n V) (hlow : ∀ b off, a = some ⟨b, off, none⟩ → 0 < n → b < w.heap.size ∧ ∀ b', v.ownBlock = some b' → b ≠ b') (hL : L.length ≤ 10000) (hn : n ≤ 10000) :
    Calls Try.prog 77 #[v, .slice a n c] w (WordsP B w (L ++ wb V)) := by
  have H := Lib.hid h
  have HO := Lib.hid ho
  have HLo := Lib.hid hlow
  have hln := h.ln
  obtain ⟨va, vc, rfl⟩ := own_form ho
  obtain ⟨ti, hi, hz0, hz1, hz2⟩ := info_parts info5
  clear h ho hlow
  go_enter Try.func77, Try.ntmps77
  go_wp2_with fail
  go_loopw [0, 9] (fun v iv wr => ∃ k : Nat, k ≤ n ∧ iv = .int .i64 k ∧ OwnV B wr v (L ++ wb (V.take k)) ∧ Below B w wr ∧ (∀ i, i < n → ∀ b off, a = some ⟨b, off, none⟩ → wr.cell? ⟨b, off + i, none⟩ = some (.int .u16 ((V.getD i 0 : Nat) : Int)) ∧ b < wr.heap.size ∧ ∀ b', v.ownBlock = some b' → b ≠ b')) (fun _ iv _ => n - (intOf iv).toNat)
  case atStart =>
    refine ⟨0, Nat.zero_le _, rfl, by simpa [wb] using HO.out, Below.refl _ _, fun i hi b off e => ?_⟩
    obtain ⟨b', off', e', _, hc⟩ := H.out.pos (by omega)
    rw [e] at e'
    simp only [Option.some.injEq, Addr.mk.injEq, and_true] at e'
    obtain ⟨rfl, rfl⟩ := e'
    obtain ⟨q1, q2⟩ := HLo.out b off e (by omega)
    exact ⟨hc i hi, q1, q2⟩
  case round =>
    obtain ⟨wo, rfl⟩ : ∃ wo : World, wo = wr := ⟨_, rfl⟩
    obtain ⟨k, hk, rfl, hO, hb, hcc⟩ := hrel
    obtain ⟨wa, wc, rfl⟩ := own_form hO
    by_cases hkn : k < n
    · obtain ⟨b, off, rfl, hbl, hc⟩ := H.out.pos (by omega)
      obtain ⟨hc0, hbo, hbne⟩ := hcc k hkn b off rfl
      have ht := take_snoc' V k (by omega)
      have hv := wgetD_lt H.out.by' k
      generalize V.getD k 0 = v at hc0 ht hv
      have hwl := wb_len (V.take k)
      have htl : (V.take k).length = k := by rw [List.length_take]; omega
      have HT := Lib.hid ht
      have HO2 := Lib.hid hO
      have HBE := Lib.hid hb
      have sw := hb.size
      have d0 : (k : Int) < (n : Int) := by omega
      have hlen : (L ++ wb (V.take k)).length ≤ 40000 := by rw [List.length_append, hwl, htl]; omega
      have HLEN := Lib.hid hlen
      clear ht hO hb hc hwl htl hlen
      generalize hM : L ++ wb (V.take k) = M at *
      have HM := Lib.hid hM
      obtain ⟨m, hm⟩ : ∃ m, m = M.length := ⟨_, rfl⟩
      have Hm := Lib.hid hm
      have hO3 : wo.ownsRow B 5 1 (.slice wa M.length wc) M.length (bv M) := HO2.out
      rw [← hm] at hO3 hcc ⊢
      have HCC := Lib.hid hcc
      clear hcc
      have HO3 := Lib.hid hO3
      clear hM hm hO3
      go_wp2_with (at_builtin; refine wpList_append_bys rfl (.tmp 13) (.tmp 19) rfl B _ ?hB _ m M rfl ?own (some ⟨wo.heap.size, 0, none⟩) 2 2 [v / 256, v % 256] rfl ?hby ?nil ?le ?_)
      case hB => simp; omega
      case own => exact own_keep (w' := wo.alloc (.cells #[.int .u8 ((v / 256 : Nat) : Int), .int .u8 ((v % 256 : Nat) : Int)] 5 (0, 0))) HO3.out ((Below.refl _ _).alloc (Nat.le_refl _) _)
      case hby =>
        refine bys_block [v / 256, v % 256] (by simp [maxLen]) ?_ ?_ (t := 5) (m := (0, 0))
        · intro b hb
          simp at hb
          omega
        · rw [heap_alloc_new]; simp [bv]
      case nil => intro e; cases e
      case le => have := HLEN.out; have := Hm.out; omega
      intro v' w' ho' hg' _ hob
      have hbA : Below B wo w' := ((Below.refl B wo).alloc (Nat.le_trans hB sw) _).grown hg' (by simp; omega) (fun q hq => by
        have := (own_keep (w' := wo.alloc (.cells #[.int .u8 ((v / 256 : Nat) : Int), .int .u8 ((v % 256 : Nat) : Int)] 5 (0, 0))) HO3.out ((Below.refl _ _).alloc (Nat.le_refl _) _)).lt q hq
        exact this.1)
      have hO5 : OwnV B w' v' (L ++ wb (V.take (k + 1))) := by
        rw [HT.out, wb_app, wb_one, ← List.append_assoc, HM.out]
        have e : (M ++ [v / 256, v % 256]).length = m + 2 := by rw [List.length_append, Hm.out]; rfl
        unfold OwnV
        rw [e]
        exact ho'
      have hcc' : ∀ i, i < n → ∀ b2 off2, some (⟨b, off, none⟩ : Addr) = some ⟨b2, off2, none⟩ → w'.cell? ⟨b2, off2 + i, none⟩ = some (.int .u16 ((V.getD i 0 : Nat) : Int)) ∧ b2 < w'.heap.size ∧ ∀ b', v'.ownBlock = some b' → b2 ≠ b' := by
        intro i hi b2 off2 e
        obtain ⟨q1, q2, q3⟩ := HCC.out i hi b2 off2 e
        refine ⟨?_, Nat.lt_of_lt_of_le q2 hbA.size, fun b' hb' => ?_⟩
        · rw [← q1]
          refine World.cell?_of_block ((hg'.block b2 (by simp; omega) (fun e2 => q3 b2 e2.symm rfl)).trans ?_)
          exact heap_alloc_old _ _ q2
        · rcases hob with hob | hob
          · exact q3 b' (by rw [← hob]; exact hb')
          · rw [hb'] at hob
            simp at hob
            omega
      have O5 := Lib.hid hO5
      have B5 := Lib.hid (HBE.out.trans hbA)
      have C5 := Lib.hid hcc'
      clear hO5 hbA ho' hg' hob hcc' HO2 HO3 HCC
      go_wp2_with fail
      go_roundw
      case rel => exact ⟨k + 1, by omega, by go_num, O5.out, B5.out, C5.out⟩
      case measure => simp [intOf]; omega
    · have hk' : k = n := by omega
      subst hk'
      rw [List.take_of_length_le (by omega)] at hO
      have HF : Hid (WordsP B w (L ++ wb V) (.returned (.slice wa (L ++ wb (V.take k)).length wc)) wo) := Lib.hid (by
        refine ⟨_, rfl, ?_, hb⟩
        rw [List.take_of_length_le (by omega)]
        exact hO)
      clear hO hb hcc
      go_wp2_with fail
      go_ret
      exact HF.out
set_option maxRecDepth 100000 in
set_option maxHeartbeats 4000000 in
theorem words_any (B : Nat) (v : Value) (L : List Nat) (a : Option Addr) (n c : Nat) (V : List Nat) (w : World) (hB : B ≤ w.heap.size) (ho : OwnV B w v L) (h : Ixs w a n V) (hlow : ∀ b off, a = some ⟨b, off, none⟩ → 0 < n → b < w.heap.size ∧ ∀ b', v.ownBlock = some b' → b ≠ b') (hL : L.length ≤ 10000) (hn : n ≤ 10000) :
    Calls Try.prog 74 #[v, .slice a n c] w (WordsP B w (L ++ wb V)) := by
  have H := Lib.hid h
  have HO := Lib.hid ho
  have HLo := Lib.hid hlow
  have hln := h.ln
  obtain ⟨va, vc, rfl⟩ := own_form ho
  obtain ⟨ti, hi, hz0, hz1, hz2⟩ := info_parts info5
  clear h ho hlow
  go_enter Try.func74, Try.ntmps74
  go_wp2_with fail
  go_loopw [0, 9] (fun v iv wr => ∃ k : Nat, k ≤ n ∧ iv = .int .i64 k ∧ OwnV B wr v (L ++ wb (V.take k)) ∧ Below B w wr ∧ (∀ i, i < n → ∀ b off, a = some ⟨b, off, none⟩ → wr.cell? ⟨b, off + i, none⟩ = some (.int .i64 ((V.getD i 0 : Nat) : Int)) ∧ b < wr.heap.size ∧ ∀ b', v.ownBlock = some b' → b ≠ b')) (fun _ iv _ => n - (intOf iv).toNat)
  case atStart =>
    refine ⟨0, Nat.zero_le _, rfl, by simpa [wb] using HO.out, Below.refl _ _, fun i hi b off e => ?_⟩
    obtain ⟨b', off', e', _, hc⟩ := H.out.pos (by omega)
    rw [e] at e'
    simp only [Option.some.injEq, Addr.mk.injEq, and_true] at e'
    obtain ⟨rfl, rfl⟩ := e'
    obtain ⟨q1, q2⟩ := HLo.out b off e (by omega)
    exact ⟨hc i hi, q1, q2⟩
  case round =>
    obtain ⟨wo, rfl⟩ : ∃ wo : World, wo = wr := ⟨_, rfl⟩
    obtain ⟨k, hk, rfl, hO, hb, hcc⟩ := hrel
    obtain ⟨wa, wc, rfl⟩ := own_form hO
    by_cases hkn : k < n
    · obtain ⟨b, off, rfl, hbl, hc⟩ := H.out.pos (by omega)
      obtain ⟨hc0, hbo, hbne⟩ := hcc k hkn b off rfl
      have ht := take_snoc' V k (by omega)
      have hv := wgetD_lt H.out.by' k
      generalize V.getD k 0 = v at hc0 ht hv
      have hwl := wb_len (V.take k)
      have htl : (V.take k).length = k := by rw [List.length_take]; omega
      have HT := Lib.hid ht
      have HO2 := Lib.hid hO
      have HBE := Lib.hid hb
      have sw := hb.size
      have d0 : (k : Int) < (n : Int) := by omega
      have hlen : (L ++ wb (V.take k)).length ≤ 40000 := by rw [List.length_append, hwl, htl]; omega
      have HLEN := Lib.hid hlen
      clear ht hO hb hc hwl htl hlen
      generalize hM : L ++ wb (V.take k) = M at *
      have HM := Lib.hid hM
      obtain ⟨m, hm⟩ : ∃ m, m = M.length := ⟨_, rfl⟩
      have Hm := Lib.hid hm
      have hO3 : wo.ownsRow B 5 1 (.slice wa M.length wc) M.length (bv M) := HO2.out
      rw [← hm] at hO3 hcc ⊢
      have HCC := Lib.hid hcc
      clear hcc
      have HO3 := Lib.hid hO3
      clear hM hm hO3
      go_wp2_with (at_builtin; refine wpList_append_bys rfl (.tmp 13) (.tmp 19) rfl B _ ?hB _ m M rfl ?own (some ⟨wo.heap.size, 0, none⟩) 2 2 [v / 256, v % 256] rfl ?hby ?nil ?le ?_)
      case hB => simp; omega
      case own => exact own_keep (w' := wo.alloc (.cells #[.int .u8 ((v / 256 : Nat) : Int), .int .u8 ((v % 256 : Nat) : Int)] 5 (0, 0))) HO3.out ((Below.refl _ _).alloc (Nat.le_refl _) _)
      case hby =>
        refine bys_block [v / 256, v % 256] (by simp [maxLen]) ?_ ?_ (t := 5) (m := (0, 0))
        · intro b hb
          simp at hb
          omega
        · rw [heap_alloc_new]; simp [bv]
      case nil => intro e; cases e
      case le => have := HLEN.out; have := Hm.out; omega
      intro v' w' ho' hg' _ hob
      have hbA : Below B wo w' := ((Below.refl B wo).alloc (Nat.le_trans hB sw) _).grown hg' (by simp; omega) (fun q hq => by
        have := (own_keep (w' := wo.alloc (.cells #[.int .u8 ((v / 256 : Nat) : Int), .int .u8 ((v % 256 : Nat) : Int)] 5 (0, 0))) HO3.out ((Below.refl _ _).alloc (Nat.le_refl _) _)).lt q hq
        exact this.1)
      have hO5 : OwnV B w' v' (L ++ wb (V.take (k + 1))) := by
        rw [HT.out, wb_app, wb_one, ← List.append_assoc, HM.out]
        have e : (M ++ [v / 256, v % 256]).length = m + 2 := by rw [List.length_append, Hm.out]; rfl
        unfold OwnV
        rw [e]
        exact ho'
      have hcc' : ∀ i, i < n → ∀ b2 off2, some (⟨b, off, none⟩ : Addr) = some ⟨b2, off2, none⟩ → w'.cell? ⟨b2, off2 + i, none⟩ = some (.int .i64 ((V.getD i 0 : Nat) : Int)) ∧ b2 < w'.heap.size ∧ ∀ b', v'.ownBlock = some b' → b2 ≠ b' := by
        intro i hi b2 off2 e
        obtain ⟨q1, q2, q3⟩ := HCC.out i hi b2 off2 e
        refine ⟨?_, Nat.lt_of_lt_of_le q2 hbA.size, fun b' hb' => ?_⟩
        · rw [← q1]
          refine World.cell?_of_block ((hg'.block b2 (by simp; omega) (fun e2 => q3 b2 e2.symm rfl)).trans ?_)
          exact heap_alloc_old _ _ q2
        · rcases hob with hob | hob
          · exact q3 b' (by rw [← hob]; exact hb')
          · rw [hb'] at hob
            simp at hob
            omega
      have O5 := Lib.hid hO5
      have B5 := Lib.hid (HBE.out.trans hbA)
      have C5 := Lib.hid hcc'
      clear hO5 hbA ho' hg' hob hcc' HO2 HO3 HCC
      go_wp2_with fail
      go_roundw
      case rel => exact ⟨k + 1, by omega, by go_num, O5.out, B5.out, C5.out⟩
      case measure => simp [intOf]; omega
    · have hk' : k = n := by omega
      subst hk'
      rw [List.take_of_length_le (by omega)] at hO
      have HF : Hid (WordsP B w (L ++ wb V) (.returned (.slice wa (L ++ wb (V.take k)).length wc)) wo) := Lib.hid (by
        refine ⟨_, rfl, ?_, hb⟩
        rw [List.take_of_length_le (by omega)]
        exact hO)
      clear hO hb hcc
      go_wp2_with fail
      go_ret
      exact HF.out
end Go.Proofs.Ytdolgpogjnfpkaa
