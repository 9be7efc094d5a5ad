/- A new panel; what one answers. -/
import Derived.Test.YtedakoihlnokfaaF
import Derived.Deep.RegionWith
namespace Go.Proofs.Ytedakoihlnokfaa
set_option linter.unusedVariables false
set_option linter.unusedSimpArgs false
open Go.ChangeShapes Go.WideShapes Go.ChangeAt Go.RowKit

def badK (x : Int) : Bool := decide (x < 1) || decide (6 < x)
def badS (x : Int) : Bool := decide (x < 0) || decide (9 ≤ x)
def newB (x : Int) : Bool := (x == 1) || (x == 6)
theorem badK_any (x : Int) (w : World) : Calls Try.prog 21 #[.int .i64 x] w fun e w' => e = .returned (.bool (badK x)) ∧ w = w' := by
  unfold badK
  cases h1 : decide (x < 1) with
  | true =>
    go_enter Try.func21, Try.ntmps21
    go_wp2_with fail
    go_ret
    exact ⟨rfl, rfl⟩
  | false =>
    go_enter Try.func21, Try.ntmps21
    go_wp2_with fail
    go_ret
    exact ⟨rfl, rfl⟩
theorem badS_any (x : Int) (w : World) : Calls Try.prog 34 #[.int .i64 x] w fun e w' => e = .returned (.bool (badS x)) ∧ w = w' := by
  unfold badS
  cases h1 : decide (x < 0) with
  | true =>
    go_enter Try.func34, Try.ntmps34
    go_wp2_with fail
    go_ret
    exact ⟨rfl, rfl⟩
  | false =>
    go_enter Try.func34, Try.ntmps34
    go_wp2_with fail
    go_ret
    exact ⟨rfl, rfl⟩
theorem isNew_any (x : Int) (w : World) : Calls Try.prog 28 #[.int .i64 x] w fun e w' => e = .returned (.bool (newB x)) ∧ w = w' := by
  unfold newB
  cases h1 : (x == 1) with
  | true =>
    go_enter Try.func28, Try.ntmps28
    go_wp2_with fail
    go_ret
    exact ⟨rfl, rfl⟩
  | false =>
    go_enter Try.func28, Try.ntmps28
    go_wp2_with fail
    go_ret
    exact ⟨rfl, rfl⟩
set_option maxRecDepth 100000 in
set_option maxHeartbeats 2000000 in
theorem indexK_any (a : Option Addr) (n c : Nat) (L : List Int) (w : World) (h : Ir w a n L) :
    Calls Try.prog 39 #[.slice a n c, .func (.func 21) #[] #[]] w fun e w' => (∃ r : Int, e = .returned (.int .i64 r) ∧ decide (0 ≤ r) = L.any badK) ∧ w = w' := by
  have hle := h.le
  unfold maxLen at hle
  have hln := h.ln
  have H := Lib.hid h
  have HN := Lib.hid hln
  clear h hln
  go_enter Try.func39, Try.ntmps39
  go_wp2_with fail
  go_loop [8] (fun i => ∃ k : Nat, k ≤ n ∧ i = .int .i64 k ∧ ∀ j, j < k → badK (L.getD j 0) = false) (fun i => n - (intOf i).toNat)
  case atStart => exact ⟨0, Nat.zero_le _, rfl, fun j hj => by omega⟩
  case round =>
    obtain ⟨k, hk, rfl, hb⟩ := hrel
    by_cases hkn : k < n
    · obtain ⟨b, off, ha, _, hc⟩ := H.out.pos (by omega)
      subst ha
      have hc0 := hc k hkn
      have hkl : k < L.length := by rw [HN.out]; exact hkn
      have hmem : L.getD k 0 ∈ L := by simp only [List.getD]; rw [List.getElem?_eq_getElem hkl]; exact List.getElem_mem hkl
      obtain ⟨x, hx⟩ : ∃ x, x = L.getD k 0 := ⟨_, rfl⟩
      rw [← hx] at hc0 hmem
      have HB := Lib.hid hb
      have HX := Lib.hid hx
      have HM := Lib.hid hmem
      clear hc hb hx hmem
      go_wp2_with fail
      refine (badK_any x w).mono ?_
      rintro e w1 ⟨rfl, rfl⟩
      cases hq : badK x with
      | true =>
        have hp : decide ((0 : Int) ≤ (k : Int)) = L.any badK := by
          rw [decide_eq_true (by omega)]
          exact (List.any_eq_true.2 ⟨x, HM.out, hq⟩).symm
        have HP := Lib.hid hp
        clear hp hq
        go_wp2_with fail
        go_ret
        exact ⟨⟨_, rfl, HP.out⟩, rfl⟩
      | false =>
        have HQ := Lib.hid hq
        clear hq
        go_wp2_with fail
        go_round
        case rel =>
          refine ⟨k + 1, by omega, by go_num, fun j hj => ?_⟩
          by_cases e : j = k
          · subst e; rw [← HX.out]; exact HQ.out
          · exact HB.out j (by omega)
        case measure => simp [intOf]; omega
    · have hk' : k = n := by omega
      subst hk'
      have hp : decide ((0 : Int) ≤ -1) = L.any badK := by
        rw [decide_eq_false (by omega)]
        symm
        rw [List.any_eq_false]
        intro x hx
        obtain ⟨j, hj, rfl⟩ := List.getElem_of_mem hx
        have := hb j (by rw [HN.out] at hj; exact hj)
        simp only [List.getD, List.getElem?_eq_getElem hj, Option.getD_some] at this
        simp [this]
      have HP := Lib.hid hp
      clear hp hb
      go_wp2_with fail
      go_ret
      exact ⟨⟨_, rfl, HP.out⟩, rfl⟩

theorem containsK_any (a : Option Addr) (n c : Nat) (L : List Int) (w : World) (h : Ir w a n L) :
    Calls Try.prog 22 #[.slice a n c, .func (.func 21) #[] #[]] w fun e w' => e = .returned (.bool (L.any badK)) ∧ w = w' := by
  have H := Lib.hid h
  clear h
  go_enter Try.func22, Try.ntmps22
  go_wp2_with fail
  refine (indexK_any a n c L w H.out).mono ?_
  rintro e w1 ⟨⟨r, rfl, hr⟩, rfl⟩
  have HR := Lib.hid hr
  clear hr
  go_wp2_with fail
  go_ret
  first
    | exact ⟨rfl, rfl⟩
    | (rw [HR.out]; exact ⟨rfl, rfl⟩)

set_option maxRecDepth 100000 in
set_option maxHeartbeats 2000000 in
theorem indexS_any (a : Option Addr) (n c : Nat) (L : List Int) (w : World) (h : Ir w a n L) :
    Calls Try.prog 39 #[.slice a n c, .func (.func 34) #[] #[]] w fun e w' => (∃ r : Int, e = .returned (.int .i64 r) ∧ decide (0 ≤ r) = L.any badS) ∧ w = w' := by
  have hle := h.le
  unfold maxLen at hle
  have hln := h.ln
  have H := Lib.hid h
  have HN := Lib.hid hln
  clear h hln
  go_enter Try.func39, Try.ntmps39
  go_wp2_with fail
  go_loop [8] (fun i => ∃ k : Nat, k ≤ n ∧ i = .int .i64 k ∧ ∀ j, j < k → badS (L.getD j 0) = false) (fun i => n - (intOf i).toNat)
  case atStart => exact ⟨0, Nat.zero_le _, rfl, fun j hj => by omega⟩
  case round =>
    obtain ⟨k, hk, rfl, hb⟩ := hrel
    by_cases hkn : k < n
    · obtain ⟨b, off, ha, _, hc⟩ := H.out.pos (by omega)
      subst ha
      have hc0 := hc k hkn
      have hkl : k < L.length := by rw [HN.out]; exact hkn
      have hmem : L.getD k 0 ∈ L := by simp only [List.getD]; rw [List.getElem?_eq_getElem hkl]; exact List.getElem_mem hkl
      obtain ⟨x, hx⟩ : ∃ x, x = L.getD k 0 := ⟨_, rfl⟩
      rw [← hx] at hc0 hmem
      have HB := Lib.hid hb
      have HX := Lib.hid hx
      have HM := Lib.hid hmem
      clear hc hb hx hmem
      go_wp2_with fail
      refine (badS_any x w).mono ?_
      rintro e w1 ⟨rfl, rfl⟩
      cases hq : badS x with
      | true =>
        have hp : decide ((0 : Int) ≤ (k : Int)) = L.any badS := by
          rw [decide_eq_true (by omega)]
          exact (List.any_eq_true.2 ⟨x, HM.out, hq⟩).symm
        have HP := Lib.hid hp
        clear hp hq
        go_wp2_with fail
        go_ret
        exact ⟨⟨_, rfl, HP.out⟩, rfl⟩
      | false =>
        have HQ := Lib.hid hq
        clear hq
        go_wp2_with fail
        go_round
        case rel =>
          refine ⟨k + 1, by omega, by go_num, fun j hj => ?_⟩
          by_cases e : j = k
          · subst e; rw [← HX.out]; exact HQ.out
          · exact HB.out j (by omega)
        case measure => simp [intOf]; omega
    · have hk' : k = n := by omega
      subst hk'
      have hp : decide ((0 : Int) ≤ -1) = L.any badS := by
        rw [decide_eq_false (by omega)]
        symm
        rw [List.any_eq_false]
        intro x hx
        obtain ⟨j, hj, rfl⟩ := List.getElem_of_mem hx
        have := hb j (by rw [HN.out] at hj; exact hj)
        simp only [List.getD, List.getElem?_eq_getElem hj, Option.getD_some] at this
        simp [this]
      have HP := Lib.hid hp
      clear hp hb
      go_wp2_with fail
      go_ret
      exact ⟨⟨_, rfl, HP.out⟩, rfl⟩

theorem containsS_any (a : Option Addr) (n c : Nat) (L : List Int) (w : World) (h : Ir w a n L) :
    Calls Try.prog 22 #[.slice a n c, .func (.func 34) #[] #[]] w fun e w' => e = .returned (.bool (L.any badS)) ∧ w = w' := by
  have H := Lib.hid h
  clear h
  go_enter Try.func22, Try.ntmps22
  go_wp2_with fail
  refine (indexS_any a n c L w H.out).mono ?_
  rintro e w1 ⟨⟨r, rfl, hr⟩, rfl⟩
  have HR := Lib.hid hr
  clear hr
  go_wp2_with fail
  go_ret
  first
    | exact ⟨rfl, rfl⟩
    | (rw [HR.out]; exact ⟨rfl, rfl⟩)

def CloneP (w : World) (n : Nat) (L : List Int) (e : Ending) (w' : World) : Prop :=
  ∃ a c, e = .returned (.slice a n c) ∧ ArgI w' a n c L ∧ (∀ b off, a = some ⟨b, off, none⟩ → w.heap.size ≤ b) ∧ Below w.heap.size w w'
theorem clone_any (a : Option Addr) (n c : Nat) (L : List Int) (w : World) (h : ArgI w a n c L) (hn : n * 8 ≤ 140737488355328) :
    Calls Try.prog 23 #[.slice a n c] w (CloneP w n L) := by
  cases a with
  | none =>
    obtain ⟨rfl, rfl⟩ := h.nil rfl
    have hp : CloneP w 0 L (.returned (.slice none 0 0)) w := ⟨none, 0, rfl, h, (fun b off e => by cases e), Below.refl _ _⟩
    have HP := Lib.hid hp
    have hq := run_eql_slice_nil (P := Try.prog) w 22 3 none 0 0 Try.underlying22
    clear hp h
    go_enter Try.func23, Try.ntmps23
    go_wp2_with fail
    go_ret
    exact HP.out
  | some ad =>
    have H := Lib.hid h
    have hq := run_eql_slice_nil (P := Try.prog) w 22 3 (some ad) n c Try.underlying22
    clear h
    go_enter Try.func23, Try.ntmps23
    go_wp2_with (at_builtin; refine wpList_append_ir 22 3 Try.underlying22 info3 rfl (.tmp 5) (.tmp 6) rfl w.heap.size _ ?hB (.slice (some ⟨w.heap.size, 0, none⟩) 0 0) 0 [] rfl ?own (some ad) n c L rfl ?hby ?nil ?le ?_)
    case hB => simp
    case own => exact own_newi 3 (Nat.le_refl _)
    case nil => intro e; cases e
    case le => omega
    case hby => exact H.out.row.below ((Below.refl _ _).alloc (Nat.le_refl _) _)
    intro v2 w2 ho2 hg2 hn2 hk2
    have b2 : Below w.heap.size w w2 := ((Below.refl _ _).alloc (Nat.le_refl _) _).grown hg2 (by simp) (fun k hk => by simp [Value.ownBlock] at hk; omega)
    obtain ⟨a2, c2, rfl, ha2, hf2⟩ := own_ir ho2 H.out.row.wf
    have HP : Hid (CloneP w n L (.returned (.slice a2 n c2)) w2) := Lib.hid ⟨a2, c2, rfl, (by simpa using ha2), hf2, b2⟩
    clear ho2 hg2 hn2 hk2 b2 ha2 hf2
    go_wp2_with fail
    go_ret
    exact HP.out

def SameP (L M : List Int) (w : World) (e : Ending) (w' : World) : Prop := e = .returned (.bool (decide (L = M))) ∧ Below w.heap.size w w'

set_option maxRecDepth 100000 in
set_option maxHeartbeats 2000000 in
theorem sameInts_any (a b : Option Addr) (n c m d : Nat) (L M : List Int) (w : World) (h : Ir w a n L) (g : Ir w b m M) :
    Calls Try.prog 17 #[.slice a n c, .slice b m d] w (SameP L M w) := by
  have hle := h.le
  unfold maxLen at hle
  by_cases hnm : n = m
  · subst hnm
    have H := Lib.hid h
    have G := Lib.hid g
    clear h g
    go_enter Try.func17, Try.ntmps17
    go_wp2_with fail
    go_loopw [5] (fun i wr => ∃ k : Nat, k ≤ n ∧ i = .int .i64 k ∧ (∀ j, j < k → L.getD j 0 = M.getD j 0) ∧ Below w.heap.size w wr) (fun i _ => n - (intOf i).toNat)
    case atStart => exact ⟨0, Nat.zero_le _, rfl, (fun j hj => by omega), Below.refl _ _⟩
    case round =>
      obtain ⟨wo, rfl⟩ : ∃ wo : World, wo = wr := ⟨_, rfl⟩
      obtain ⟨k, hk, rfl, hs, hb⟩ := hrel
      by_cases hkn : k < n
      · obtain ⟨b1, o1, e1, _, q1⟩ := (H.out.below hb).pos (by omega)
        obtain ⟨b2, o2, e2, _, q2⟩ := (G.out.below hb).pos (by omega)
        subst e1; subst e2
        have c1 := q1 k hkn
        have c2 := q2 k hkn
        have p1 : (0 : Int) ≤ (k : Int) := by omega
        have p2 : (k : Int) < (n : Int) := by omega
        have HS := Lib.hid hs
        have HB := Lib.hid hb
        by_cases hxy : L.getD k 0 = M.getD k 0
        · have XY := Lib.hid hxy
          rw [hxy] at c1
          generalize M.getD k 0 = x at c1 c2
          clear hs hb q1 q2 hxy
          go_wp2_with fail
          go_quiet (fail)
          go_wp2_with fail
          go_roundw
          case rel => exact ⟨k + 1, by omega, by go_num, (fun j hj => by by_cases e : j = k
                                                                         · subst e; exact XY.out
                                                                         · exact HS.out j (by omega)), below_drewN HB.out _⟩
          case measure => simp [intOf]; omega
        · have HP := Lib.hid (same_at hxy)
          generalize L.getD k 0 = x at c1 hxy
          generalize M.getD k 0 = y at c2 hxy
          have d1 : decide (x = y) = false := by simpa using hxy
          clear hs hb q1 q2
          go_wp2_with fail
          go_quiet (fail)
          go_wp2_with fail
          go_ret
          exact ⟨by rw [HP.out]; rfl, below_drewN HB.out _⟩
      · have hk' : k = n := by omega
        subst hk'
        have HP := Lib.hid (same_all (by rw [H.out.ln, G.out.ln]) (fun j hj => hs j (by rw [H.out.ln] at hj; exact hj)))
        have HB := Lib.hid hb
        clear hs hb
        go_wp2_with fail
        go_ret
        exact ⟨by rw [HP.out]; rfl, HB.out⟩
  · have HP := Lib.hid (same_len (L := L) (M := M) (by rw [h.ln, g.ln]; exact hnm))
    have d1 : decide (n = m) = false := by simpa using hnm
    clear h g
    go_enter Try.func17, Try.ntmps17
    go_wp2_with fail
    go_ret
    exact ⟨by rw [HP.out]; rfl, Below.refl _ _⟩

set_option maxRecDepth 100000 in
set_option maxHeartbeats 2000000 in
theorem indexI_any (a : Option Addr) (n c : Nat) (L : List Int) (v : Int) (w : World) (h : Ir w a n L) :
    Calls Try.prog 46 #[.slice a n c, .int .i64 v] w fun e w' => (∃ r : Int, e = .returned (.int .i64 r) ∧ decide (0 ≤ r) = L.any (fun x => v == x)) ∧ w = w' := by
  have hle := h.le
  unfold maxLen at hle
  have hln := h.ln
  have H := Lib.hid h
  have HN := Lib.hid hln
  clear h hln
  go_enter Try.func46, Try.ntmps46
  go_wp2_with fail
  go_loop [8] (fun i => ∃ k : Nat, k ≤ n ∧ i = .int .i64 k ∧ ∀ j, j < k → (v == L.getD j 0) = false) (fun i => n - (intOf i).toNat)
  case atStart => exact ⟨0, Nat.zero_le _, rfl, fun j hj => by omega⟩
  case round =>
    obtain ⟨k, hk, rfl, hb⟩ := hrel
    by_cases hkn : k < n
    · obtain ⟨b, off, ha, _, hc⟩ := H.out.pos (by omega)
      subst ha
      have hc0 := hc k hkn
      have hkl : k < L.length := by rw [HN.out]; exact hkn
      have hmem : L.getD k 0 ∈ L := by simp only [List.getD]; rw [List.getElem?_eq_getElem hkl]; exact List.getElem_mem hkl
      obtain ⟨x, hx⟩ : ∃ x, x = L.getD k 0 := ⟨_, rfl⟩
      rw [← hx] at hc0 hmem
      have HB := Lib.hid hb
      have HX := Lib.hid hx
      have HM := Lib.hid hmem
      clear hc hb hx hmem
      cases hq : (v == x) with
      | true =>
        have hp : decide ((0 : Int) ≤ (k : Int)) = L.any (fun x => v == x) := by
          rw [decide_eq_true (by omega)]
          exact (List.any_eq_true.2 ⟨x, HM.out, hq⟩).symm
        have HP := Lib.hid hp
        clear hp
        go_wp2_with fail
        go_ret
        exact ⟨⟨_, rfl, HP.out⟩, rfl⟩
      | false =>
        have HQ := Lib.hid hq
        go_wp2_with fail
        go_round
        case rel =>
          refine ⟨k + 1, by omega, by go_num, fun j hj => ?_⟩
          by_cases e : j = k
          · subst e; rw [← HX.out]; exact HQ.out
          · exact HB.out j (by omega)
        case measure => simp [intOf]; omega
    · have hk' : k = n := by omega
      subst hk'
      have hp : decide ((0 : Int) ≤ -1) = L.any (fun x => v == x) := by
        rw [decide_eq_false (by omega)]
        symm
        rw [List.any_eq_false]
        intro x hx
        obtain ⟨j, hj, rfl⟩ := List.getElem_of_mem hx
        have := hb j (by rw [HN.out] at hj; exact hj)
        simp only [List.getD, List.getElem?_eq_getElem hj, Option.getD_some] at this
        simp only [this]; decide
      have HP := Lib.hid hp
      clear hp hb
      go_wp2_with fail
      go_ret
      exact ⟨⟨_, rfl, HP.out⟩, rfl⟩
theorem containsI_any (a : Option Addr) (n c : Nat) (L : List Int) (v : Int) (w : World) (h : Ir w a n L) :
    Calls Try.prog 36 #[.slice a n c, .int .i64 v] w fun e w' => e = .returned (.bool (L.any (fun x => v == x))) ∧ w = w' := by
  have H := Lib.hid h
  clear h
  go_enter Try.func36, Try.ntmps36
  go_wp2_with fail
  refine (indexI_any a n c L v w H.out).mono ?_
  rintro e w1 ⟨⟨r, rfl, hr⟩, rfl⟩
  have HR := Lib.hid hr
  clear hr
  go_wp2_with fail
  go_ret
  first
    | exact ⟨rfl, rfl⟩
    | (rw [HR.out]; exact ⟨rfl, rfl⟩)
/-- A new panel, or none. -/
def okK (K : List Int) : Bool := decide (K.length ≤ 64) && !K.any badK
def NewP (w : World) (n : Nat) (K : List Int) (e : Ending) (w' : World) : Prop :=
  (okK K = false ∧ e = .returned (.pointer none) ∧ w = w') ∨
  (okK K = true ∧ ∃ p sb ka kc, e = .returned (.pointer (some ⟨p, 0, none⟩)) ∧ Pn w.heap.size w' p sb ka kc n K (List.replicate n 0) false false ∧ Below w.heap.size w w')
theorem okK_6 {K : List Int} (h : okK K = true) : K.length ≤ 64 ∧ ∀ k ∈ K, 1 ≤ k ∧ k ≤ 6 := by
  unfold okK at h
  simp only [Bool.and_eq_true, decide_eq_true_eq, Bool.not_eq_true', List.any_eq_false] at h
  refine ⟨h.1, fun k hk => ?_⟩
  have := h.2 k hk
  unfold badK at this
  simp at this
  omega
theorem rep_9 (n : Nat) : ∀ s ∈ List.replicate n (0 : Int), 0 ≤ s ∧ s < 9 := fun s hs => by rw [List.mem_replicate] at hs; omega
set_option maxRecDepth 100000 in
set_option maxHeartbeats 4000000 in
theorem new_any (a : Option Addr) (n c : Nat) (K : List Int) (w : World) (h : ArgI w a n c K) :
    Calls Try.prog 7 #[.slice a n c] w (NewP w n K) := by
  have hln := h.row.ln
  by_cases h64 : 64 < n
  · have hp : NewP w n K (.returned (.pointer none)) w := .inl ⟨by unfold okK; rw [decide_eq_false (by omega)]; rfl, rfl, rfl⟩
    have HP := Lib.hid hp
    have d1 : decide ((64 : Int) < (n : Int)) = true := by simp; omega
    clear h hp hln
    go_enter Try.func7, Try.ntmps7
    go_wp2_with fail
    go_ret
    exact HP.out
  have d1 : decide ((64 : Int) < (n : Int)) = false := by simp; omega
  have HR := Lib.hid h.row
  cases hb : K.any badK with
  | true =>
    have hp : NewP w n K (.returned (.pointer none)) w := .inl ⟨by unfold okK; rw [hb]; simp, rfl, rfl⟩
    have HP := Lib.hid hp
    have HB := Lib.hid hb
    clear h hp hln hb
    go_enter Try.func7, Try.ntmps7
    go_wp2_with fail
    refine (containsK_any a n c K w HR.out).mono ?_
    rintro e w1 ⟨rfl, rfl⟩
    rw [HB.out]
    go_wp2_with fail
    go_ret
    exact HP.out
  | false =>
    have hok : okK K = true := by unfold okK; rw [hb, decide_eq_true (by omega)]; rfl
    obtain ⟨P, hP⟩ : ∃ P, P = (NewP w n K : Ending → World → Prop) := ⟨_, rfl⟩
    rw [← hP]
    have HP := Lib.hid hP
    have HOK := Lib.hid hok
    have HLN := Lib.hid hln
    have HB := Lib.hid hb
    have CA := Lib.hid (fun (W : World) (hw : Below w.heap.size w W) => clone_any a n c K W (h.below hw) (by omega))
    have mk := make_ir 22 3 Try.underlying22 info3 n (by omega)
    have fin : ∀ (W : World) (p sb : Nat) (ka : Option Addr) (kc : Nat), W.heap[p]? = some (.cells #[.slice ka n kc, .slice (some ⟨sb, 0, none⟩) n n, .bool false, .bool false] 46 (0, 0)) → W.heap[sb]? = some (.cells (iv (List.replicate n 0)).toArray 3 (0, 0)) → Ir W ka n K → w.heap.size ≤ p → w.heap.size ≤ sb → p ≠ sb → (∀ b off, ka = some ⟨b, off, none⟩ → 0 < n → b ≠ p ∧ b ≠ sb) → Below w.heap.size w W → NewP w n K (.returned (.pointer (some ⟨p, 0, none⟩))) W := by
      intro W p sb ka kc h1 h2 h3 h4 h5 h6 h7 h8
      have hk := okK_6 HOK.out
      exact .inr ⟨HOK.out, p, sb, ka, kc, rfl, ⟨h4, h5, h6, HLN.out, by simp, by rw [← HLN.out]; exact hk.1, hk.2, rep_9 n, h1, h2, h3, h7⟩, h8⟩
    have FIN := Lib.hid fin
    clear h hP hln hok hb fin
    go_enter Try.func7, Try.ntmps7
    go_wp2_with fail
    refine (containsK_any a n c K w HR.out).mono ?_
    rintro e w1 ⟨rfl, rfl⟩
    rw [HB.out]
    go_upto_region 4 with fail
    have c0 := CA.out w.drew (Below.refl _ _).drew
    have c1 := CA.out (w.alloc (.cells (iv (List.replicate n 0)).toArray 3 (0, 0))).drew ((Below.refl _ _).alloc (Nat.le_refl _) _).drew
    go_region_with (first
      | (go_at_call 23; refine c0.mono ?_; rintro e w2 ⟨a2, c2, rfl, hA, hne, hb2⟩)
      | (go_at_call 23; refine c1.mono ?_; rintro e w2 ⟨a2, c2, rfl, hA, hne, hb2⟩))
    · have hs2 : w.heap.size ≤ w2.heap.size := hb2.size
      have q0 : Below w.heap.size w w2 := (Below.refl w.heap.size w).drew.trans hb2
      have q1 := alloc_b w2 (.cells (iv (List.replicate n 0)).toArray 3 (0, 0))
      have q2 := alloc_b (w2.alloc (.cells (iv (List.replicate n 0)).toArray 3 (0, 0))) (.cells #[.slice a2 n c2, .slice (some ⟨w2.heap.size, 0, none⟩) n n, .bool false, .bool false] 46 (0, 0))
      have f := FIN.out _ (w2.heap.size + 1) w2.heap.size a2 c2 (by have := heap_alloc_new (w2.alloc (.cells (iv (List.replicate n 0)).toArray 3 (0, 0))) (.cells #[.slice a2 n c2, .slice (some ⟨w2.heap.size, 0, none⟩) n n, .bool false, .bool false] 46 (0, 0)); rw [World.size_alloc] at this; exact this) (low_of q2 (heap_alloc_new _ _)) ((hA.row.below q1).below q2) (by omega) hs2 (by omega) (fun b off e h0 => by
        obtain ⟨b', o', e', hlt, _⟩ := hA.row.pos h0
        rw [e] at e'; simp only [Option.some.injEq, Addr.mk.injEq, and_true] at e'; omega) ((q0.trans (q1.mono hs2)).trans (q2.mono (by simp; omega)))
      have FF := Lib.hid f
      clear f q1 q2 hb2 hne hA q0
      go_wp2_with fail
      go_ret
      rw [HP.out]
      exact FF.out
    · have hs2 : w.heap.size + 1 ≤ w2.heap.size := by have := hb2.size; simpa using this
      have q0 : Below w.heap.size w w2 := ((alloc_b w (.cells (iv (List.replicate n 0)).toArray 3 (0, 0))).drew).trans (hb2.mono (by simp))
      have q2 := alloc_b w2 (.cells #[.slice a2 n c2, .slice (some ⟨w.heap.size, 0, none⟩) n n, .bool false, .bool false] 46 (0, 0))
      have f := FIN.out _ w2.heap.size w.heap.size a2 c2 (heap_alloc_new _ _) (low_of q2 ((hb2.block w.heap.size (by simp)).trans (heap_alloc_new w (.cells (iv (List.replicate n 0)).toArray 3 (0, 0))))) (hA.row.below q2) (by omega) (Nat.le_refl _) (by omega) (fun b off e h0 => by
        obtain ⟨b', o', e', hlt, _⟩ := hA.row.pos h0
        have hz := hne b off e
        simp at hz
        rw [e] at e'; simp only [Option.some.injEq, Addr.mk.injEq, and_true] at e'; omega) (q0.trans (q2.mono (by omega)))
      have FF := Lib.hid f
      clear f q2 hb2 hne hA q0
      go_wp2_with fail
      go_ret
      rw [HP.out]
      exact FF.out
end Go.Proofs.Ytedakoihlnokfaa
