/- What a panel answers, and has happen. -/
import Derived.Test.YtedakoihlnokfaaG
import Derived.Laws.CopyOwn
namespace Go.Proofs.Ytedakoihlnokfaa
set_option linter.unusedVariables false
set_option linter.unusedSimpArgs false
open Go.ChangeShapes Go.WideShapes Go.ChangeAt Go.RowKit

theorem rowP_ir {w' : World} {g n : Nat} {L : List Int} (h : w'.heap[g]? = some (.cells (iv L).toArray 3 (0, 0))) (hl : L.length = n) (hn : n ≤ 64) (hw : ∀ x ∈ L, 0 ≤ x ∧ x < 9) : Ir w' (some ⟨g, 0, none⟩) n L := by
  have := iv_row h (by unfold maxLen; omega) (s8_wf hw)
  rw [hl] at this
  exact this
theorem map_id' (S : List Int) : S.map (fun s => s) = S := by simp
def looks (te : Bool) (S : List Int) : List Int := if te = true then S.map (fun _ => 1) else S.map lookZ
def hornP (si te : Bool) (S : List Int) : Int := if te = true then 1 else if si = true then 0 else if (S.map hornZ).any (fun x => (1 : Int) == x) = true then 1 else if (S.map hornZ).any (fun x => (2 : Int) == x) = true then 2 else 0
theorem statesP_any {B : Nat} {w : World} {p sb : Nat} {ka : Option Addr} {kc n : Nat} {K S : List Int} {si te : Bool} (h : Pn B w p sb ka kc n K S si te) : Calls Try.prog 15 #[.pointer (some ⟨p, 0, none⟩)] w (RowP w n S) := by
  have E := Lib.hid (each_states h)
  rw [map_id'] at E
  clear h
  go_enter Try.func15, Try.ntmps15
  go_wp2_with fail
  refine E.out.mono ?_
  rintro e w1 ⟨g, rfl, h1, h2, h3⟩
  have HP : Hid (RowP w n S (.returned (.slice (some ⟨g, 0, none⟩) n n)) w1) := Lib.hid ⟨g, rfl, h1, h2, h3⟩
  clear h1 h2 h3
  go_wp2_with fail
  go_ret
  exact HP.out
theorem looksP_any {B : Nat} {w : World} {p sb : Nat} {ka : Option Addr} {kc n : Nat} {K S : List Int} {si te : Bool} (h : Pn B w p sb ka kc n K S si te) : Calls Try.prog 20 #[.pointer (some ⟨p, 0, none⟩)] w (RowP w n (looks te S)) := by
  obtain ⟨c0, c1, c2, c3, _, _⟩ := cells4 h.blk
  unfold looks
  cases te with
  | true =>
    have E := Lib.hid (each_on h)
    clear h
    go_enter Try.func20, Try.ntmps20
    go_wp2_with fail
    refine E.out.mono ?_
    rintro e w1 ⟨g, rfl, h1, h2, h3⟩
    have HP : Hid (RowP w n (S.map (fun _ => 1)) (.returned (.slice (some ⟨g, 0, none⟩) n n)) w1) := Lib.hid ⟨g, rfl, h1, h2, h3⟩
    clear h1 h2 h3 c0 c1 c2 c3
    go_wp2_with fail
    go_ret
    exact HP.out
  | false =>
    have E := Lib.hid (each_look h)
    clear h
    go_enter Try.func20, Try.ntmps20
    go_wp2_with fail
    refine E.out.mono ?_
    rintro e w1 ⟨g, rfl, h1, h2, h3⟩
    have HP : Hid (RowP w n (S.map lookZ) (.returned (.slice (some ⟨g, 0, none⟩) n n)) w1) := Lib.hid ⟨g, rfl, h1, h2, h3⟩
    clear h1 h2 h3 c0 c1 c2 c3
    go_wp2_with fail
    go_ret
    exact HP.out
theorem hornZ_9 (s : Int) : 0 ≤ hornZ s ∧ hornZ s < 9 := by
  unfold hornZ
  split
  · exact getD_9 (by decide) _
  · decide
theorem horn_panel {B : Nat} {w : World} {p sb : Nat} {ka : Option Addr} {kc n : Nat} {K S : List Int} {si te : Bool} (h : Pn B w p sb ka kc n K S si te) : Calls Try.prog 18 #[.pointer (some ⟨p, 0, none⟩)] w (IntB w (hornP si te S)) := by
  have H := Lib.hid h
  have E := Lib.hid (each_horn h)
  have hL : (S.map hornZ).length = n := by rw [List.length_map]; exact h.sl
  have h9 : ∀ x ∈ S.map hornZ, 0 ≤ x ∧ x < 9 := by
    intro x hx
    rw [List.mem_map] at hx
    obtain ⟨s, _, rfl⟩ := hx
    exact hornZ_9 s
  have HL := Lib.hid hL
  have H9 := Lib.hid h9
  have n64 := h.n64
  unfold hornP
  obtain ⟨L, hLL⟩ : ∃ L, L = S.map hornZ := ⟨_, rfl⟩
  rw [← hLL] at E HL H9 ⊢
  have PR := Lib.hid (fun w' (hb : Below w.heap.size w w') => cells4 (low_of hb h.blk))
  clear h hL h9 hLL
  cases te with
  | true =>
    go_enter Try.func18, Try.ntmps18
    go_wp2_with fail
    refine E.out.mono ?_
    rintro e w1 ⟨g, rfl, h1, h2, h3⟩
    obtain ⟨c0, c1, c2, c3, _, _⟩ := PR.out w1 h3
    have H3 := Lib.hid h3
    clear h1 h2 h3
    go_wp2_with fail
    go_ret
    exact ⟨rfl, H3.out⟩
  | false =>
    cases si with
    | true =>
      go_enter Try.func18, Try.ntmps18
      go_wp2_with fail
      refine E.out.mono ?_
      rintro e w1 ⟨g, rfl, h1, h2, h3⟩
      obtain ⟨c0, c1, c2, c3, _, _⟩ := PR.out w1 h3
      have H3 := Lib.hid h3
      clear h1 h2 h3
      go_wp2_with fail
      go_ret
      exact ⟨rfl, H3.out⟩
    | false =>
      cases b1 : L.any (fun x => (1 : Int) == x) with
      | true =>
        have B1 := Lib.hid b1
        clear b1
        go_enter Try.func18, Try.ntmps18
        go_wp2_with fail
        refine E.out.mono ?_
        rintro e w1 ⟨g, rfl, h1, h2, h3⟩
        obtain ⟨c0, c1, c2, c3, _, _⟩ := PR.out w1 h3
        have H3 := Lib.hid h3
        have R := Lib.hid (rowP_ir h1 HL.out n64 H9.out)
        clear h1 h2 h3
        go_wp2_with fail
        refine (containsI_any _ n n L 1 w1 R.out).mono ?_
        rintro e w2 ⟨rfl, rfl⟩
        rw [B1.out]
        go_wp2_with fail
        go_ret
        exact ⟨rfl, H3.out⟩
      | false =>
        cases b2 : L.any (fun x => (2 : Int) == x)
        all_goals
          have B1 := Lib.hid b1
          have B2 := Lib.hid b2
          clear b1 b2
          go_enter Try.func18, Try.ntmps18
          go_wp2_with fail
          refine E.out.mono ?_
          rintro e w1 ⟨g, rfl, h1, h2, h3⟩
          obtain ⟨c0, c1, c2, c3, _, _⟩ := PR.out w1 h3
          have H3 := Lib.hid h3
          have R := Lib.hid (rowP_ir h1 HL.out n64 H9.out)
          clear h1 h2 h3
          go_wp2_with fail
          refine (containsI_any _ n n L 1 w1 R.out).mono ?_
          rintro e w2 ⟨rfl, rfl⟩
          rw [B1.out]
          go_wp2_with fail
          refine (containsI_any _ n n L 2 w1 R.out).mono ?_
          rintro e w2 ⟨rfl, rfl⟩
          rw [B2.out]
          go_wp2_with fail
          go_ret
          exact ⟨rfl, H3.out⟩
/-- What is done to a panel. -/
def DoP (B : Nat) (w : World) (p sb : Nat) (ka : Option Addr) (kc n : Nat) (K S' : List Int) (si' te' : Bool) (r : Value) (e : Ending) (w' : World) : Prop := e = .returned r ∧ Pn B w' p sb ka kc n K S' si' te' ∧ Fs [p, sb] w w'
theorem ackP_any {B : Nat} {w : World} {p sb : Nat} {ka : Option Addr} {kc n : Nat} {K S : List Int} {si te : Bool} (h : Pn B w p sb ka kc n K S si te) : Calls Try.prog 9 #[.pointer (some ⟨p, 0, none⟩)] w (DoP B w p sb ka kc n K (mapN K S (fun _ => 4)) si te (.tuple #[])) := by
  have E := Lib.hid (happens_ack h)
  have H := Lib.hid h
  clear h
  go_enter Try.func9, Try.ntmps9
  go_wp2_with fail
  refine E.out.mono ?_
  rintro e w1 ⟨rfl, h1, h2⟩
  have HP : Hid (DoP B w p sb ka kc n K (mapN K S (fun _ => 4)) si te (.tuple #[]) (.returned (.tuple #[])) w1) := Lib.hid ⟨rfl, H.out.turn h2 (by rw [mapN_len, H.out.sl]) (mapN_9 H.out.s8) h1, h2.mono (by simp)⟩
  clear h1 h2
  go_wp2_with fail
  first | go_end0 | refine bodyPost_ret (results_none rfl _ _ _) rfl ?_
  exact HP.out
theorem resetP_any {B : Nat} {w : World} {p sb : Nat} {ka : Option Addr} {kc n : Nat} {K S : List Int} {si te : Bool} (h : Pn B w p sb ka kc n K S si te) : Calls Try.prog 10 #[.pointer (some ⟨p, 0, none⟩)] w (DoP B w p sb ka kc n K (mapN K S (fun _ => 5)) si te (.tuple #[])) := by
  have E := Lib.hid (happens_reset h)
  have H := Lib.hid h
  clear h
  go_enter Try.func10, Try.ntmps10
  go_wp2_with fail
  refine E.out.mono ?_
  rintro e w1 ⟨rfl, h1, h2⟩
  have HP : Hid (DoP B w p sb ka kc n K (mapN K S (fun _ => 5)) si te (.tuple #[]) (.returned (.tuple #[])) w1) := Lib.hid ⟨rfl, H.out.turn h2 (by rw [mapN_len, H.out.sl]) (mapN_9 H.out.s8) h1, h2.mono (by simp)⟩
  clear h1 h2
  go_wp2_with fail
  first | go_end0 | refine bodyPost_ret (results_none rfl _ _ _) rfl ?_
  exact HP.out
theorem silenceP_any {B : Nat} {w : World} {p sb : Nat} {ka : Option Addr} {kc n : Nat} {K S : List Int} {si te : Bool} (h : Pn B w p sb ka kc n K S si te) : Calls Try.prog 11 #[.pointer (some ⟨p, 0, none⟩)] w (DoP B w p sb ka kc n K S true te (.tuple #[])) := by
  obtain ⟨c0, c1, c2, c3, f2, f3⟩ := cells4 h.blk
  have HP : Hid (DoP B w p sb ka kc n K S true te (.tuple #[]) (.returned (.tuple #[])) (w.setCell ⟨p, 2, none⟩ (.bool true))) := Lib.hid ⟨rfl, h.flag2 true, (Fs.set w p 2 _).mono (by simp)⟩
  clear h
  go_enter Try.func11, Try.ntmps11
  go_wp2_with fail
  first | go_end0 | refine bodyPost_ret (results_none rfl _ _ _) rfl ?_
  exact HP.out
theorem testP_any {B : Nat} {w : World} {p sb : Nat} {ka : Option Addr} {kc n : Nat} {K S : List Int} {si te : Bool} (h : Pn B w p sb ka kc n K S si te) (b : Bool) : Calls Try.prog 12 #[.pointer (some ⟨p, 0, none⟩), .bool b] w (DoP B w p sb ka kc n K S si b (.tuple #[])) := by
  obtain ⟨c0, c1, c2, c3, f2, f3⟩ := cells4 h.blk
  have HP : Hid (DoP B w p sb ka kc n K S si b (.tuple #[]) (.returned (.tuple #[])) (w.setCell ⟨p, 3, none⟩ (.bool b))) := Lib.hid ⟨rfl, h.flag3 b, (Fs.set w p 3 _).mono (by simp)⟩
  clear h
  go_enter Try.func12, Try.ntmps12
  go_wp2_with fail
  first | go_end0 | refine bodyPost_ret (results_none rfl _ _ _) rfl ?_
  exact HP.out
/-- Other states over those of a panel. -/
theorem wpList_copy_ir {ops : Array Oper} {rest : List Oper} {o : Oper} {ac : Act} {Q : Exit → Act → World → Prop} (hgd : o.guard = none) (d s : Operand) (ho : o.op = .call { callee := .builtin .copy, args := #[d, s], argTypes := #[22, 22] })
    (w : World) (g n dc c : Nat) (ad : Option Addr) (S L : List Int) (hd : ac.eval d = .slice (some ⟨g, 0, none⟩) n dc) (hs : ac.eval s = .slice ad n c) (hg : w.heap[g]? = some (.cells (iv S).toArray 3 (0, 0))) (hS : S.length = n) (hr : Ir w ad n L)
    (h : ∀ w', Hid (w'.heap[g]? = some (.cells (iv L).toArray 3 (0, 0))) → Hid (Fs [g] w w') → wpList Try.prog ops Q rest (ac.put o.dst (goInt n)) w') : wpList Try.prog ops Q (o :: rest) ac w := by
  have hsz : (Try.prog.info? 3).map (·.size) = some 1 := by kernel_rfl
  have hL := hr.ln
  by_cases h0 : n = 0
  · subst h0
    have hL0 : L = [] := List.eq_nil_of_length_eq_zero hL
    have hS0 : S = [] := List.eq_nil_of_length_eq_zero hS
    subst hL0; subst hS0
    exact wpList_copy_nothing hgd d s 22 22 ho 3 Try.underlying22 hsz _ _ 0 dc 0 c hd hs rfl (h w (Lib.hid hg) (Lib.hid (Fs.refl _ _)))
  · obtain ⟨b, off, rfl, hlt, hc⟩ := hr.pos (by omega)
    refine wpList_copy_own hgd d s 22 22 ho 3 Try.underlying22 hsz g 0 n dc _ n c hd hs _ 3 hg (iv L) (by rw [iv_len, hL]; exact (Nat.min_self n).symm) (fun j v hv => ?_) (by simp [iv_len, hL, hS]) (iv_one L) ?_
    · have hj : j < n := by
        have := (List.getElem?_eq_some_iff.1 hv).1
        rwa [iv_len, hL] at this
      rw [iv_get L j (by omega)] at hv
      rw [addr_at, ← hv]
      exact hc j hj
    · have e : (((iv S).toArray.toList.take 0 ++ (iv L ++ (iv S).toArray.toList.drop (0 + (iv L).length))).toArray) = (iv L).toArray := by
        simp [iv_len, hL]
        omega
      rw [e, iv_len, hL]
      exact h _ (Lib.hid (setRow_heap w g _ _ 3 _ hg)) (Lib.hid ⟨rfl, rfl, rfl, by simp [World.setRow], fun k hk h1 => setRow_other w g k _ (by simpa using h1)⟩)
def LoadP (B : Nat) (w : World) (p sb : Nat) (ka : Option Addr) (kc n m : Nat) (K S L : List Int) (si te : Bool) (e : Ending) (w' : World) : Prop :=
  (e = .returned (.bool false) ∧ w = w' ∧ ¬ (m = n ∧ L.any badS = false)) ∨ (m = n ∧ L.any badS = false ∧ DoP B w p sb ka kc n K L false false (.bool true) e w')
theorem any_badS {L : List Int} (h : L.any badS = false) : ∀ s ∈ L, 0 ≤ s ∧ s < 9 := by
  rw [List.any_eq_false] at h
  intro s hs
  have := h s hs
  unfold badS at this
  simp at this
  omega
set_option maxRecDepth 100000 in
theorem loadP_any {B : Nat} {w : World} {p sb : Nat} {ka : Option Addr} {kc n : Nat} {K S : List Int} {si te : Bool} (h : Pn B w p sb ka kc n K S si te) (a : Option Addr) (m c : Nat) (L : List Int) (hL : Ir w a m L) : Calls Try.prog 16 #[.pointer (some ⟨p, 0, none⟩), .slice a m c] w (LoadP B w p sb ka kc n m K S L si te) := by
  obtain ⟨c0, c1, c2, c3, f2, f3⟩ := cells4 h.blk
  have H := Lib.hid h
  have HL := Lib.hid hL
  clear h hL
  by_cases hmn : m = n
  · subst hmn
    cases hb : L.any badS with
    | true =>
      have HP : Hid (LoadP B w p sb ka kc m m K S L si te (.returned (.bool false)) w) := Lib.hid (.inl ⟨rfl, rfl, by rw [hb]; simp⟩)
      have HB := Lib.hid hb
      clear hb
      go_enter Try.func16, Try.ntmps16
      go_wp2_with fail
      refine (containsS_any a m c L w HL.out).mono ?_
      rintro e w1 ⟨rfl, rfl⟩
      rw [HB.out]
      go_wp2_with fail
      go_ret
      exact HP.out
    | false =>
      have HB := Lib.hid hb
      have HST := Lib.hid H.out.st
      have HSL := Lib.hid H.out.sl
      obtain ⟨P, hP⟩ : ∃ P, P = (LoadP B w p sb ka kc m m K S L si te : Ending → World → Prop) := ⟨_, rfl⟩
      rw [← hP]
      have HP := Lib.hid hP
      clear hb hP
      go_enter Try.func16, Try.ntmps16
      go_wp2_with fail
      refine (containsS_any a m c L w HL.out).mono ?_
      rintro e w1 ⟨rfl, rfl⟩
      rw [HB.out]
      go_wp2_with (with_reducible refine wpList_copy_ir rfl (.tmp 22) (.tmp 23) rfl w sb m m c a S L rfl rfl ?k1 ?k2 ?k3 ?_)
      case k1 => exact HST.out
      case k2 => exact HSL.out
      case k3 => exact HL.out
      intro w2 hg2 hf2
      have hp2 := H.out.turn hf2.out HL.out.ln (any_badS HB.out) hg2.out
      have hp3 := (hp2.flag2 false).flag3 false
      obtain ⟨c0', c1', c2', c3', f2', f3'⟩ := cells4 hp2.blk
      have HD : Hid (DoP B w p sb ka kc m K L false false (.bool true) (.returned (.bool true)) ((w2.setCell ⟨p, 2, none⟩ (.bool false)).setCell ⟨p, 3, none⟩ (.bool false))) := Lib.hid ⟨rfl, hp3, ((hf2.out.mono (by simp)).trans ((Fs.set w2 p 2 _).mono (by simp))).trans ((Fs.set _ p 3 _).mono (by simp))⟩
      clear hp2 hp3 c0 c1 c2 c3 f2 f3
      go_wp2_with fail
      rw [HP.out]
      exact .inr ⟨rfl, HB.out, HD.out⟩
  · have HP : Hid (LoadP B w p sb ka kc n m K S L si te (.returned (.bool false)) w) := Lib.hid (.inl ⟨rfl, rfl, fun q => hmn q.1⟩)
    have d1 : decide (m = n) = false := by simpa using hmn
    go_enter Try.func16, Try.ntmps16
    go_wp2_with fail
    go_ret
    exact HP.out
end Go.Proofs.Ytedakoihlnokfaa
