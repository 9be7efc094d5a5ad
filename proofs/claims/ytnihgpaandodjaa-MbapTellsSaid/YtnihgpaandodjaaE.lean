/- The walk of MbapHead. -/
import Derived.Test.YtnihgpaandodjaaD
namespace Go.Proofs.Ytnihgpaandodjaa
set_option linter.unusedVariables false
open Go.ChangeShapes Go.WideShapes Go.ChangeAt Go.RowKit

theorem getD_app_lo (L M : List Nat) (i : Nat) (h : i < L.length) : (L ++ M).getD i 0 = L.getD i 0 := by
  simp only [List.getD]; rw [List.getElem?_append_left h]
theorem mayF_iff (f : Nat → Nat) (len : Nat) : mayF f len = true ↔ (len ≤ 2 ∨ f 2 = 0) ∧ (len ≤ 3 ∨ f 3 = 0) ∧ (len < 6 ∨ 2 ≤ 256 * f 4 + f 5 ∧ 256 * f 4 + f 5 ≤ 254) := by
  have e : folF f = 256 * f 4 + f 5 := rfl
  unfold mayF
  rw [e]
  simp [and_assoc]
theorem firstR_may {L : List Nat} (h : mayF (fun i => L.getD i 0) L.length = true) : firstR L = if L.length < 6 ∨ L.length < 6 + folF (fun i => L.getD i 0) then .more else .frame (256 * L.getD 0 0 + L.getD 1 0) (L.getD 6 0) ((L.drop 7).take (folF (fun i => L.getD i 0) - 1)) := by
  unfold firstR; rw [if_neg (fun e => by rw [h] at e; cases e)]
theorem firstR_not {L : List Nat} (h : ¬ mayF (fun i => L.getD i 0) L.length = true) : firstR L = .bad := by
  unfold firstR; rw [if_pos (by simpa using h)]
/-- What is bad stays so, and so does a frame, whatever follows. -/
theorem firstR_app (L M : List Nat) : (firstR L = .bad → firstR (L ++ M) = .bad) ∧ ∀ id u P, firstR L = .frame id u P → firstR (L ++ M) = .frame id u P := by
  have e : ∀ i, i < L.length → (L ++ M).getD i 0 = L.getD i 0 := fun i hi => getD_app_lo L M i hi
  have hlen : (L ++ M).length = L.length + M.length := List.length_append
  by_cases hm : mayF (fun i => L.getD i 0) L.length = true
  · rw [firstR_may hm]
    by_cases hs : L.length < 6 ∨ L.length < 6 + folF (fun i => L.getD i 0)
    · rw [if_pos hs]
      exact ⟨(fun h => by cases h), (fun id u P h => by cases h)⟩
    · rw [if_neg hs]
      refine ⟨(fun h => by cases h), fun id u P h => ?_⟩
      have hff : folF (fun i => L.getD i 0) = 256 * L.getD 4 0 + L.getD 5 0 := rfl
      have l6 : 6 ≤ L.length := by omega
      have e0 := e 0 (by omega)
      have e1 := e 1 (by omega)
      have e2 := e 2 (by omega)
      have e3 := e 3 (by omega)
      have e4 := e 4 (by omega)
      have e5 := e 5 (by omega)
      have hf : folF (fun i => (L ++ M).getD i 0) = folF (fun i => L.getD i 0) := by
        show 256 * (L ++ M).getD 4 0 + (L ++ M).getD 5 0 = 256 * L.getD 4 0 + L.getD 5 0
        rw [e4, e5]
      have hm2 : mayF (fun i => (L ++ M).getD i 0) (L ++ M).length = true := by
        rw [mayF_iff] at hm ⊢
        simp only [e2, e3, e4, e5]
        omega
      have hfol := may_fol hm l6
      have e6 := e 6 (by omega)
      rw [firstR_may hm2, if_neg (by rw [hf]; omega), hf, e0, e1, e6]
      have ht : ((L ++ M).drop 7).take (folF (fun i => L.getD i 0) - 1) = (L.drop 7).take (folF (fun i => L.getD i 0) - 1) := by
        rw [List.drop_append_of_le_length (by omega), List.take_append_of_le_length (by rw [List.length_drop]; omega)]
      rw [ht]
      exact h
  · rw [firstR_not hm]
    refine ⟨fun _ => firstR_not fun h2 => hm ?_, (fun id u P h => by cases h)⟩
    rw [mayF_iff] at h2 ⊢
    refine ⟨?_, ?_, ?_⟩
    · by_cases h : L.length ≤ 2
      · exact .inl h
      · right; have := h2.1; simp only [e 2 (by omega)] at this; omega
    · by_cases h : L.length ≤ 3
      · exact .inl h
      · right; have := h2.2.1; simp only [e 3 (by omega)] at this; omega
    · by_cases h : L.length < 6
      · exact .inl h
      · right; have := h2.2.2; simp only [e 4 (by omega), e 5 (by omega)] at this; omega

/-- What First says of bytes, in numbers. -/
def firstN (L : List Nat) : Nat := match firstR L with | .bad => 0 | .more => 0 | .frame _ _ P => P.length + 7
def firstE (L : List Nat) : Nat := match firstR L with | .bad => 31 | .more => 0 | .frame _ _ P => 0
/-- What is said of it that a caller who looks at no bytes wants. -/
def FirstQ (w : World) (L : List Nat) (e : Ending) (w' : World) : Prop := ∃ (x y : Int) (s : Option Addr) (n c : Nat), e = .returned (.tuple #[.agg #[.int .u16 x, .int .u8 y, .slice s n c], .int .i64 (firstN L : Nat), .int .i64 (firstE L : Nat)]) ∧ Below w.heap.size w w'
theorem first_q (a : Option Addr) (len cap : Nat) (L : List Nat) (w : World) (h : Bys w a len L) (hcap : len ≤ cap) (hcm : cap ≤ maxLen) :
    Calls Try.prog 11 #[.slice a len cap] w (FirstQ w L) := by
  refine (first_any a len cap L w h hcap hcm).mono ?_
  rintro e w1 ⟨hb, hif⟩
  unfold FirstQ firstN firstE
  cases hr : firstR L with
  | bad => rw [hr] at hif; exact ⟨_, _, _, _, _, hif, hb⟩
  | more => rw [hr] at hif; exact ⟨_, _, _, _, _, hif, hb⟩
  | frame id u P => rw [hr] at hif; obtain ⟨g, he, _⟩ := hif; exact ⟨_, _, _, _, _, he, hb⟩

theorem head_math (L M : List Nat) : (firstE L ≠ 0 → firstE (L ++ M) = firstE L ∧ firstN L = 0 ∧ firstN (L ++ M) = 0) ∧ (firstE L = 0 → firstN L = 0 ∨ (firstN (L ++ M) = firstN L ∧ firstE (L ++ M) = 0)) := by
  have h := firstR_app L M
  cases hr : firstR L with
  | bad =>
    have h2 := h.1 hr
    simp [firstE, firstN, hr, h2]
  | more => simp [firstE, firstN, hr]
  | frame id u P =>
    have h2 := h.2 id u P hr
    simp [firstE, firstN, hr, h2]

theorem by_app {L M : List Nat} (h : ∀ b ∈ L, b < 256) (h' : ∀ b ∈ M, b < 256) : ∀ b ∈ L ++ M, b < 256 := by
  intro b hb
  rcases List.mem_append.1 hb with z | z
  · exact h b z
  · exact h' b z

set_option maxRecDepth 100000 in
set_option maxHeartbeats 4000000 in
theorem head_walk (a : Option Addr) (len cap : Nat) (L : List Nat) (b : Option Addr) (len2 cap2 : Nat) (M : List Nat) (w : World) (h : ArgB w a len cap L) (h2 : ArgB w b len2 cap2 M) :
    Calls Try.prog 7 #[.slice a len cap, .slice b len2 cap2] w fun e w' => e = .returned (.bool true) ∧ Below w.heap.size w w' := by
  have hl := h.row.le
  have hl2 := h2.row.le
  unfold maxLen at hl hl2
  have hmath := head_math L M
  generalize hNL : firstN L = nl at hmath
  generalize hEL : firstE L = el at hmath
  generalize hNM : firstN (L ++ M) = nm at hmath
  generalize hEM : firstE (L ++ M) = em at hmath
  have NL := Lib.hid hNL
  have EL := Lib.hid hEL
  have NM := Lib.hid hNM
  have EM := Lib.hid hEM
  have MT := Lib.hid hmath
  have H := Lib.hid h
  have H2 := Lib.hid h2
  clear h h2 hNL hEL hNM hEM hmath
  go_enter Try.func7, Try.ntmps7
  go_wp2_with fail
  refine (head_any w).mono ?_
  rintro e w0 ⟨rfl, b0⟩
  have B0 := Lib.hid b0
  have hs0 := b0.size
  have H0 := Lib.hid (H.out.below b0)
  have H02 := Lib.hid (H2.out.below b0)
  clear b0 H H2
  by_cases hbig : 300 < len
  · have d1 : decide (300 < (len : Int)) = true := by simp; omega
    go_wp2_with fail
    go_ret
    exact ⟨rfl, B0.out⟩
  · have d1 : decide (300 < (len : Int)) = false := by simp; omega
    by_cases hbig2 : 3000 < len2
    · have d2 : decide (3000 < (len2 : Int)) = true := by simp; omega
      go_wp2_with fail
      go_ret
      exact ⟨rfl, B0.out⟩
    · have d2 : decide (3000 < (len2 : Int)) = false := by simp; omega
      go_wp2_with fail
      refine (first_q a len cap L _ H0.out.row H0.out.le H0.out.mx).mono ?_
      rintro e w1 ⟨x1, x2, x3, x4, x5, rfl, b1⟩
      rw [NL.out, EL.out]
      have B1 := Lib.hid (B0.out.trans (b1.mono hs0))
      have H1 := Lib.hid (H0.out.below b1)
      have H12 := Lib.hid (H02.out.below b1)
      clear b1 H0 H02
      have hs1 := B1.out.size
      go_wp2_with (at_builtin; refine wpList_append_bys rfl (.tmp 29) (.tmp 30) rfl w1.heap.size _ ?hB (.slice (some ⟨w1.heap.size + 1, 0, none⟩) 0 0) 0 [] rfl ?own a len cap L rfl ?hby ?nil ?le ?_)
      case hB => simp; omega
      case own =>
        have hh := own_new (B := w1.heap.size) (w := w1.alloc (.cells #[.int .u16 x1, .int .u8 x2, .slice x3 x4 x5] 25 (0, 0))) (by simp)
        simpa using hh
      case nil => exact fun e => (H1.out.nil e).2
      case le => omega
      case hby => exact H1.out.row.below (((Below.refl _ _).alloc (Nat.le_refl _) _).alloc (by simp) _)
      intro v2 w2 ho2 hg2 hn2 hk2
      have b2 : Below w1.heap.size w1 w2 := (((Below.refl _ _).alloc (Nat.le_refl _) _).alloc (by simp) _).grown hg2 (by simp; omega) (fun k hk => by simp [Value.ownBlock] at hk; omega)
      have O2 := Lib.hid ho2
      have HN2 := Lib.hid hn2
      have B2 := Lib.hid b2
      have H22 := Lib.hid (H12.out.below b2)
      clear ho2 hg2 hn2 hk2 b2
      go_wp2_with (at_builtin; refine wpList_append_bys rfl (.tmp 31) (.tmp 32) rfl w1.heap.size _ ?hB' _ len L rfl O2.out b len2 cap2 M rfl H22.out.row ?nil' ?le' ?_)
      case hB' => exact B2.out.size
      case nil' => exact fun e => (H22.out.nil e).2
      case le' => omega
      intro v3 w3 ho3 hg3 hn3 hk3
      have b3 : Below w1.heap.size w1 w3 := B2.out.grown hg3 B2.out.size (fun k hk => (O2.out.lt k hk).1)
      have hne : ¬ v3 = .slice none 0 0 := fun e => HN2.out (hn3.1 e).1
      obtain ⟨g3, k3, rfl, ho3'⟩ := owns_slice ho3 hne
      have A3 := Lib.hid (ho3'.arg (by_app H1.out.row.by' H12.out.row.by'))
      have B3 := Lib.hid (B1.out.trans (b3.mono hs1))
      have hs3 := B3.out.size
      clear ho3 hg3 hn3 hk3 b3 hne ho3' O2 B2 H22 HN2
      go_wp2_with fail
      refine (first_q _ (len + len2) k3 (L ++ M) _ A3.out.row A3.out.le A3.out.mx).mono ?_
      rintro e w4 ⟨y1, y2, y3, y4, y5, rfl, b4⟩
      rw [NM.out, EM.out]
      have B4 := Lib.hid ((B3.out.trans (b4.mono hs3)).alloc (B3.out.trans (b4.mono hs3)).size (.cells #[.int .u16 y1, .int .u8 y2, .slice y3 y4 y5] 25 (0, 0)))
      clear b4 A3
      by_cases he : el = 0
      · have t1 : ((el : Int) != 0) = false := by simp [he]
        rcases MT.out.2 he with h0 | ⟨h1, h2⟩
        · have t2 : ((nl : Int) == 0) = true := by simp [h0]
          clear h0 he
          go_wp2_with fail
          go_ret
          exact ⟨rfl, B4.out⟩
        · have t3 : ((nm : Int) == (nl : Int)) = true := by simp [h1]
          have t4 : ((em : Int) == 0) = true := by simp [h2]
          clear h1 h2 he
          by_cases hz : nl = 0
          · have t2 : ((nl : Int) == 0) = true := by simp [hz]
            clear hz
            go_wp2_with fail
            go_ret
            exact ⟨rfl, B4.out⟩
          · have t2 : ((nl : Int) == 0) = false := by simp; omega
            clear hz
            go_wp2_with fail
            go_ret
            exact ⟨rfl, B4.out⟩
      · have t1 : ((el : Int) != 0) = true := by simp; omega
        obtain ⟨h1, h2, h3⟩ := MT.out.1 he
        have t2 : ((em : Int) == (el : Int)) = true := by simp [h1]
        have t3 : ((nl : Int) == 0) = true := by simp [h2]
        have t4 : ((nm : Int) == 0) = true := by simp [h3]
        clear h1 h2 h3 he
        go_wp2_with fail
        go_ret
        exact ⟨rfl, B4.out⟩
end Go.Proofs.Ytnihgpaandodjaa
