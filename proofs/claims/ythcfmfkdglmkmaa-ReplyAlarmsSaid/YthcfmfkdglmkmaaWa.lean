/- The document's bytes: a word more. -/
import Derived.Test.YthcfmfkdglmkmaaRe
namespace Go.Proofs.Ythcfmfkdglmkmaa
set_option linter.unusedVariables false
set_option linter.unusedSimpArgs false
open Go.ChangeShapes Go.WideShapes Go.ChangeAt Go.RowKit

/-- A row of the call's own has grown; what else lies behind is as it was. -/
def GrewP (B : Nat) (v : Value) (w : World) (L : List Nat) (e : Ending) (w' : World) : Prop :=
  ∃ v', e = .returned v' ∧ OwnV B w' v' L ∧ Below B w w' ∧ (∀ k, k < w.heap.size → v.ownBlock ≠ some k → w'.heap[k]? = w.heap[k]?) ∧ ∀ k, v'.ownBlock = some k → v.ownBlock = some k ∨ w.heap.size ≤ k
set_option maxRecDepth 100000 in
set_option maxHeartbeats 4000000 in
theorem word14_any (B : Nat) (v : Value) (L : List Nat) (x : Nat) (w : World) (hB : B ≤ w.heap.size) (ho : OwnV B w v L) (hx : x < 65536) (hL : L.length ≤ 40000) : Calls Try.prog 41 #[v, .int .i64 (x : Int)] w (GrewP B v w (L ++ wb [x])) := by
  obtain ⟨P, hP⟩ : ∃ P, P = (GrewP B v w (L ++ wb [x]) : Ending → World → Prop) := ⟨_, rfl⟩
  rw [← hP]
  have HP := Lib.hid hP
  obtain ⟨va, vc, rfl⟩ := own_form ho
  obtain ⟨m, hm⟩ : ∃ m, m = L.length := ⟨_, rfl⟩
  have Hm := Lib.hid hm
  have hO3 : w.ownsRow B 5 1 (.slice va L.length vc) L.length (bv L) := ho
  rw [← hm] at hO3 hP hL HP ⊢
  have HO3 := Lib.hid hO3
  have c1 : IntKind.u8.wrap ((x : Int) / 256) = ((x / 256 : Nat) : Int) := by simp [IntKind.wrap, IntKind.bits, IntKind.signed]; omega
  have c2 : IntKind.u8.wrap (x : Int) = ((x % 256 : Nat) : Int) := by simp [IntKind.wrap, IntKind.bits, IntKind.signed]
  clear hP ho hm hO3
  go_enter Try.func41, Try.ntmps41
  go_wp2_with (at_builtin; refine wpList_append_bys rfl (.tmp 5) (.tmp 11) rfl B _ ?hB _ m L rfl ?own (some ⟨w.heap.size, 0, none⟩) 2 2 [x / 256, x % 256] rfl ?hby ?nil ?le ?_)
  case hB => simp; omega
  case own => exact own_keep (w' := w.alloc (.cells #[.int .u8 ((x / 256 : Nat) : Int), .int .u8 ((x % 256 : Nat) : Int)] 5 (0, 0))) HO3.out ((Below.refl _ _).alloc (Nat.le_refl _) _)
  case hby =>
    refine bys_block [x / 256, x % 256] (by simp [maxLen]) ?_ ?_ (t := 5) (m := (0, 0))
    · intro b hb
      simp at hb
      omega
    · rw [heap_alloc_new]; simp [bv]
  case nil => intro e; cases e
  case le => omega
  intro v' w' ho' hg' _ hob
  have hbA : Below B w w' := ((Below.refl B w).alloc hB _).grown hg' (by simp; omega) (fun q hq => by
    have := (own_keep (w' := w.alloc (.cells #[.int .u8 ((x / 256 : Nat) : Int), .int .u8 ((x % 256 : Nat) : Int)] 5 (0, 0))) HO3.out ((Below.refl _ _).alloc (Nat.le_refl _) _)).lt q hq
    exact this.1)
  have FIN : Hid (P (.returned v') w') := Lib.hid (by
    rw [HP.out]
    refine ⟨v', rfl, ?_, hbA, fun k hk hne => ?_, fun k hk => ?_⟩
    · rw [wb_one]
      have e : (L ++ [x / 256, x % 256]).length = m + 2 := by rw [List.length_append, Hm.out]; rfl
      unfold OwnV
      rw [e]
      exact ho'
    · exact (hg'.block k (by simp; omega) (fun e => hne e.symm)).trans (heap_alloc_old _ _ hk)
    · rcases hob with hob | hob
      · exact .inl (by rw [← hob]; exact hk)
      · rw [hk] at hob
        simp at hob
        exact .inr (by omega))
  clear ho' hg' hob hbA
  go_wp2_with fail
  exact FIN.out
set_option maxRecDepth 100000 in
set_option maxHeartbeats 4000000 in
theorem words14_any (a : Option Addr) (n c : Nat) (V : List Nat) (w : World) (h : Wds w a n V) (hn : n ≤ 10000) : Calls Try.prog 42 #[.slice a n c] w (OutP w (wb V)) := by
  obtain ⟨P, hP⟩ : ∃ P, P = (OutP w (wb V) : Ending → World → Prop) := ⟨_, rfl⟩
  rw [← hP]
  have HP := Lib.hid hP
  have H := Lib.hid h
  have HLN := Lib.hid h.ln
  clear hP h
  go_enter Try.func42, Try.ntmps42
  go_wp2_with fail
  go_loopw [3, 4] (fun v iv wr => ∃ k : Nat, k ≤ n ∧ iv = .int .i64 k ∧ OwnV w.heap.size wr v (wb (V.take k)) ∧ Below w.heap.size w wr) (fun _ iv _ => n - (intOf iv).toNat)
  case atStart => exact ⟨0, Nat.zero_le _, rfl, by rw [List.take_zero]; exact ⟨rfl, .inl ⟨rfl, rfl⟩⟩, Below.refl _ _⟩
  case round =>
    obtain ⟨wo, rfl⟩ : ∃ wo : World, wo = wr := ⟨_, rfl⟩
    obtain ⟨k, hk, rfl, hO, hb⟩ := hrel
    by_cases hkn : k < n
    · obtain ⟨b, off, rfl, hc0⟩ := (H.out.below hb).row k hkn
      have ht := take_snoc' V k (by have := HLN.out; omega)
      have hv := wgetD_lt H.out.by' k
      generalize V.getD k 0 = x at hc0 ht hv
      have hwl := wb_len (V.take k)
      have htl : (V.take k).length = k := by rw [List.length_take]; have := HLN.out; omega
      have HT := Lib.hid ht
      have WD := Lib.hid (word14_any w.heap.size _ (wb (V.take k)) x wo hb.size hO hv (by omega))
      have HBE := Lib.hid hb
      have d0 : (k : Int) < (n : Int) := by omega
      have i0 : IntKind.i64.wrap (x : Int) = (x : Int) := IntWalk.i64_in _ (by omega)
      clear ht hO hb hwl htl
      go_wp2_with fail
      refine WD.out.mono ?_
      rintro e w1 ⟨v', rfl, ho', hb', _, _⟩
      have O5 := Lib.hid ho'
      have B5 := Lib.hid (HBE.out.trans hb')
      clear ho' hb' WD
      go_wp2_with fail
      go_roundw
      case rel => exact ⟨k + 1, by omega, by go_num, by rw [HT.out, wb_app]; exact O5.out, B5.out⟩
      case measure => simp [intOf]; omega
    · have hk' : k = n := by omega
      subst hk'
      rw [List.take_of_length_le (by have := HLN.out; omega)] at hO
      have O5 := Lib.hid hO
      have B5 := Lib.hid hb
      clear hO hb
      go_wp2_with fail
      rw [HP.out]
      exact ⟨_, rfl, O5.out, B5.out⟩
end Go.Proofs.Ythcfmfkdglmkmaa
