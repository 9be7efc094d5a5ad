/- To put, and to drop. -/
import Derived.Test.YtfloceoopjokcaaA
namespace Go.Proofs.Ytfloceoopjokcaa
set_option linter.unusedVariables false
open Go.ChangeShapes Go.WideShapes Go.ChangeAt Go.RowKit

theorem getD_set (E : List Int) (k j : Nat) (v : Int) (hk : k < E.length) : (E.set k v).getD j 0 = if j = k then v else E.getD j 0 := by
  simp only [List.getD]
  by_cases e : j = k
  · subst e; rw [List.getElem?_set_self hk, if_pos rfl]; rfl
  · rw [List.getElem?_set_ne (fun q => e q.symm), if_neg e]
theorem Fm_set {E : List Int} {i : Int} (hi : 0 ≤ i) (hl : i.toNat < E.length) (v : Int) (j : Int) : Fm (E.set i.toNat v) j = if j = i then (if 0 < v then some (.int .i64 v) else none) else Fm E j := by
  unfold Fm
  rw [getD_set E i.toNat j.toNat v hl]
  by_cases e : j = i
  · subst e; simp [hi]
  · rw [if_neg e]
    by_cases hj : 0 ≤ j
    · have hne : ¬ j.toNat = i.toNat := by omega
      simp only [if_neg hne]
    · simp [hj]
theorem set_bd {E : List Int} (h : ∀ x ∈ E, 0 ≤ x ∧ x ≤ 2199023255552) (k : Nat) (v : Int) (hv : 0 ≤ v ∧ v ≤ 2199023255552) : ∀ x ∈ E.set k v, 0 ≤ x ∧ x ≤ 2199023255552 := by
  intro x hx
  rcases List.mem_or_eq_of_mem_set hx with z | z
  · exact h x z
  · omega
theorem Fm_out {E : List Int} {i : Int} (h : ¬ (0 ≤ i ∧ i.toNat < E.length)) : Fm E i = none := by
  unfold Fm
  by_cases h0 : 0 ≤ i
  · have : E.getD i.toNat 0 = 0 := by simp only [List.getD]; rw [List.getElem?_eq_none (by omega)]; rfl
    rw [this]; simp
  · simp [h0]

/-- What Drop leaves. -/
def dropE (E : List Int) (i : Int) : List Int := if 0 ≤ i then E.set i.toNat 0 else E
theorem dropE_len (E : List Int) (i : Int) : (dropE E i).length = E.length := by unfold dropE; split <;> simp
theorem dropE_bd {E : List Int} (h : ∀ x ∈ E, 0 ≤ x ∧ x ≤ 2199023255552) (i : Int) : ∀ x ∈ dropE E i, 0 ≤ x ∧ x ≤ 2199023255552 := by
  unfold dropE; split
  · exact set_bd h _ _ (by omega)
  · exact h
theorem Fm_drop (E : List Int) (i j : Int) : Fm (dropE E i) j = if j = i then none else Fm E j := by
  unfold dropE
  by_cases h0 : 0 ≤ i
  · rw [if_pos h0]
    by_cases hl : i.toNat < E.length
    · rw [Fm_set h0 hl]; simp
    · rw [List.set_eq_of_length_le (by omega)]
      by_cases e : j = i
      · subst e; rw [if_pos rfl]; exact Fm_out (by omega)
      · rw [if_neg e]
  · rw [if_neg h0]
    by_cases e : j = i
    · subst e; rw [if_pos rfl]; exact Fm_out (by omega)
    · rw [if_neg e]

def DropP (B : Nat) (w : World) (t m cn : Nat) (Lm E : List Int) (i : Int) (e : Ending) (w' : World) : Prop :=
  e = .returned (.bool (decide (0 < unt E i))) ∧ Tb B w' t m cn Lm (dropE E i) ∧ Fr m w w'
theorem drop_any {B : Nat} {w : World} {t m cn : Nat} {Lm E : List Int} (h : Tb B w t m cn Lm E) (i : Int) (hi : (Lit.int .i64 i).wf = true) :
    Calls Try.prog 11 #[.pointer (some ⟨t, 0, none⟩), .int .i64 i] w (DropP B w t m cn Lm E i) := by
  obtain ⟨la, lc, h1, _⟩ := h.blk
  obtain ⟨_, c1, _, _⟩ := cells2 h1
  have hk := h.map.look_ok (t := 50) (e := 2) Try.underlying50 Try.underlying3 (zero2 w) hi
  rw [(Fm_unt h.bd i).1, (Fm_unt h.bd i).2] at hk
  obtain ⟨w', hrun, him, htu⟩ := h.map.drop (t := 50) (e := 2) Try.underlying50 Try.underlying3 hi 0
  have hp : DropP B w t m cn Lm E i (.returned (.bool (decide (0 < unt E i)))) w' :=
    ⟨rfl, h.turned (Fr.turned htu) (him.congr fun j => Fm_drop E i j) (by rw [dropE_len]; exact h.ln) (dropE_bd h.bd i), Fr.turned htu⟩
  have HP := Lib.hid hp
  generalize unt E i = u at *
  clear h h1 him htu hp
  go_enter Try.func11, Try.ntmps11
  go_wp2_with fail
  go_ret
  exact HP.out

/-- What Put answers, and leaves. -/
def okP (Lm : List Int) (i n now : Int) : Bool := decide (1 ≤ n) && decide (n ≤ Lm.getD i.toNat 0) && decide (n ≤ 1099511627776) && decide (0 ≤ now) && decide (now ≤ 1099511627776)
def putC (Lm E : List Int) (i n now : Int) : Nat :=
  if 0 ≤ i ∧ i < Lm.length then (if okP Lm i n now = true then (if isB E i now = true then 4 else 0) else 1) else 3
def putE (Lm E : List Int) (i n now : Int) : List Int := if putC Lm E i n now = 0 then E.set i.toNat (now + n) else E
def PutP (B : Nat) (w : World) (t m cn : Nat) (Lm E : List Int) (i n now : Int) (e : Ending) (w' : World) : Prop :=
  e = .returned (.int .i64 (putC Lm E i n now : Nat)) ∧ Tb B w' t m (cn + 1) Lm (putE Lm E i n now) ∧ Fr m w w'
theorem Tb.mono {B : Nat} {w : World} {t m cn cn' : Nat} {Lm E : List Int} (h : Tb B w t m cn Lm E) (hc : cn ≤ cn') : Tb B w t m cn' Lm E :=
  ⟨h.ht, h.hm, h.ne, h.ln, h.bd, h.blk, h.map.mono hc⟩

theorem put_same {B : Nat} {w : World} {t m cn : Nat} {Lm E : List Int} (h : Tb B w t m cn Lm E) (i n now : Int) (c : Nat) (hc : putC Lm E i n now = c) (h0 : c ≠ 0) : PutP B w t m cn Lm E i n now (.returned (.int .i64 (c : Nat))) w := by
  refine ⟨by rw [hc], ?_, Fr.refl _ _⟩
  unfold putE
  rw [if_neg (by rw [hc]; exact h0)]
  exact h.mono (by omega)

theorem put_none {B : Nat} {w : World} {t m cn : Nat} {Lm E : List Int} (h : Tb B w t m cn Lm E) (i n now : Int) (hi : ¬ (0 ≤ i ∧ i < Lm.length)) :
    Calls Try.prog 18 #[.pointer (some ⟨t, 0, none⟩), .int .i64 i, .int .i64 n, .int .i64 now] w (PutP B w t m cn Lm E i n now) := by
  have HP := Lib.hid (put_same h i n now 3 (by unfold putC; rw [if_neg hi]) (by omega))
  obtain ⟨la, lc, h1, _⟩ := h.blk
  obtain ⟨c0, _, _, _⟩ := cells2 h1
  clear h h1
  generalize Lm.length = ln at c0 hi
  by_cases h0 : i < 0
  · have d1 : decide (i < 0) = true := by simpa using h0
    clear hi
    go_enter Try.func18, Try.ntmps18
    go_wp2_with fail
    go_ret
    exact HP.out
  · have d1 : decide (i < 0) = false := by simpa using h0
    have d2 : decide ((ln : Int) ≤ i) = true := by simp; omega
    clear hi h0
    go_enter Try.func18, Try.ntmps18
    go_wp2_with fail
    go_ret
    exact HP.out

/-- What of the table a Put reads. -/
theorem lim_cell {B : Nat} {w : World} {t m cn : Nat} {Lm E : List Int} (h : Tb B w t m cn Lm E) (k : Nat) (hk : k < Lm.length) : ∃ lb lo lc, w.cell? ⟨t, 0, none⟩ = some (.slice (some ⟨lb, lo, none⟩) Lm.length lc) ∧ w.cell? ⟨t, 1, none⟩ = some (.map (some m)) ∧ w.cell? ⟨lb, lo + k, none⟩ = some (.int .i64 (Lm.getD k 0)) ∧ (Lit.int .i64 (Lm.getD k 0)).wf = true ∧ Lm.length ≤ maxLen := by
  obtain ⟨la, lc, h1, h2, h3⟩ := h.blk
  obtain ⟨c0, c1, _, _⟩ := cells2 h1
  obtain ⟨b, off, rfl, _, hc⟩ := h2.pos (by omega)
  exact ⟨b, off, lc, c0, c1, hc k hk, getD_wf h2.wf k, h2.le⟩

theorem put_arg {B : Nat} {w : World} {t m cn : Nat} {Lm E : List Int} (h : Tb B w t m cn Lm E) (k : Nat) (n now : Int) (hi : k < Lm.length) (ho : okP Lm (k : Int) n now = false) :
    Calls Try.prog 18 #[.pointer (some ⟨t, 0, none⟩), .int .i64 (k : Int), .int .i64 n, .int .i64 now] w (PutP B w t m cn Lm E (k : Int) n now) := by
  have HP := Lib.hid (put_same h (k : Int) n now 1 (by unfold putC; rw [if_pos (by omega), if_neg (by simp [ho])]) (by omega))
  obtain ⟨lb, lo, lc, c0, c1, cl, cw, hle⟩ := lim_cell h k hi
  have ho' : n < 1 ∨ Lm.getD k 0 < n ∨ 1099511627776 < n ∨ now < 0 ∨ 1099511627776 < now := by
    simp only [okP, Int.toNat_natCast, Bool.and_eq_false_iff, decide_eq_false_iff_not] at ho
    omega
  clear h ho
  have d1 : decide ((k : Int) < 0) = false := by simp
  have d2 : decide (Lm.length ≤ k) = false := by simp; omega
  have d2' : decide ((Lm.length : Int) ≤ (k : Int)) = false := by simp; omega
  generalize Lm.length = ln at *
  generalize Lm.getD k 0 = x at *
  unfold maxLen at hle
  by_cases h1 : n < 1
  · have t1 : decide (n < 1) = true := by simpa using h1
    clear ho' h1
    go_enter Try.func18, Try.ntmps18
    go_wp2_with fail
    all_goals
      go_ret
      exact HP.out
  · have t1 : decide (n < 1) = false := by simpa using h1
    have hlt : (k : Int) < (ln : Int) := by omega
    by_cases hx : x ≤ 1099511627776
    · by_cases h2 : x < n
      · have t2 : decide (x < n) = true := by simpa using h2
        clear ho' h1 h2
        go_enter Try.func18, Try.ntmps18
        go_wp2_with fail
        all_goals
          go_ret
          exact HP.out
      · have t2 : decide (x < n) = false := by simpa using h2
        by_cases h3 : now < 0
        · have t3 : decide (now < 0) = true := by simpa using h3
          clear ho' h1 h2 h3
          go_enter Try.func18, Try.ntmps18
          go_wp2_with fail
          all_goals
            go_ret
            exact HP.out
        · have t3 : decide (now < 0) = false := by simpa using h3
          have t4 : decide (1099511627776 < now) = true := by simp; omega
          clear ho' h1 h2 h3
          go_enter Try.func18, Try.ntmps18
          go_wp2_with fail
          all_goals
            go_ret
            exact HP.out
    · by_cases h2 : 1099511627776 < n
      · have t2 : decide (1099511627776 < n) = true := by simpa using h2
        clear ho' h1
        go_enter Try.func18, Try.ntmps18
        go_wp2_with fail
        all_goals
          go_ret
          exact HP.out
      · have t2 : decide (1099511627776 < n) = false := by simpa using h2
        by_cases h3 : now < 0
        · have t3 : decide (now < 0) = true := by simpa using h3
          clear ho' h1 h3
          go_enter Try.func18, Try.ntmps18
          go_wp2_with fail
          all_goals
            go_ret
            exact HP.out
        · have t3 : decide (now < 0) = false := by simpa using h3
          have t4 : decide (1099511627776 < now) = true := by simp; omega
          clear ho' h1 h3
          go_enter Try.func18, Try.ntmps18
          go_wp2_with fail
          all_goals
            go_ret
            exact HP.out

theorem put_in {B : Nat} {w : World} {t m cn : Nat} {Lm E : List Int} (h : Tb B w t m cn Lm E) (hcn : cn < maxLen) (k : Nat) (n now : Int) (hi : k < Lm.length) (ho : okP Lm (k : Int) n now = true) :
    Calls Try.prog 18 #[.pointer (some ⟨t, 0, none⟩), .int .i64 (k : Int), .int .i64 n, .int .i64 now] w (PutP B w t m cn Lm E (k : Int) n now) := by
  obtain ⟨lb, lo, lc, c0, c1, cl, cw, hle⟩ := lim_cell h k hi
  have ho' : 1 ≤ n ∧ n ≤ Lm.getD k 0 ∧ n ≤ 1099511627776 ∧ 0 ≤ now ∧ now ≤ 1099511627776 := by
    simp only [okP, Int.toNat_natCast, Bool.and_eq_true, decide_eq_true_eq] at ho
    omega
  have hkl := hle
  unfold maxLen at hle
  have hkw : (Lit.int .i64 (k : Int)).wf = true := wf_i64 (by omega) (by omega)
  have H := Lib.hid h
  have hel := h.ln
  have hput := h.map.put (t := 50) (e := 2) Try.underlying50 Try.underlying3 hcn hkw (.int .i64 (now + n))
  obtain ⟨w', hrun, him, htu⟩ := hput
  have hc4 : isB E (k : Int) now = true → putC Lm E (k : Int) n now = 4 := fun hb => by unfold putC; rw [if_pos (by omega), if_pos ho, if_pos hb]
  have hc0 : isB E (k : Int) now = false → putC Lm E (k : Int) n now = 0 := fun hb => by unfold putC; rw [if_pos (by omega), if_pos ho, if_neg (by simp [hb])]
  have hyes : isB E (k : Int) now = false → PutP B w t m cn Lm E (k : Int) n now (.returned (.int .i64 0)) w' := fun hb => by
    refine ⟨by rw [hc0 hb]; rfl, ?_, Fr.turned htu⟩
    unfold putE
    rw [if_pos (hc0 hb)]
    refine h.turned (Fr.turned htu) (him.congr fun j => ?_) (by simpa using hel) (set_bd h.bd _ _ (by omega))
    rw [Fm_set (by omega) (by simp; omega)]
    by_cases e : j = (k : Int)
    · rw [if_pos e, if_pos e, if_pos (by omega)]
    · rw [if_neg e, if_neg e]
  have hno : isB E (k : Int) now = true → PutP B w t m cn Lm E (k : Int) n now (.returned (.int .i64 4)) w := fun hb => put_same h (k : Int) n now 4 (hc4 hb) (by omega)
  have HY := Lib.hid hyes
  have HNO := Lib.hid hno
  have HI := fun w => is_any (B := B) (w := w) (t := t) (m := m) (cn := cn) (Lm := Lm) (E := E)
  have d1 : decide ((k : Int) < 0) = false := by simp
  have d2 : decide (Lm.length ≤ k) = false := by simp; omega
  have d2' : decide ((Lm.length : Int) ≤ (k : Int)) = false := by simp; omega
  have t1 : decide (n < 1) = false := by simp; omega
  have t3 : decide (now < 0) = false := by simp; omega
  have t4 : decide (1099511627776 < now) = false := by simp; omega
  have hlt : (k : Int) < (Lm.length : Int) := by omega
  have hb1 : 0 ≤ now := by omega
  have hb2 : now ≤ 1099511627776 := by omega
  have hb3 : 1 ≤ n := by omega
  have hb4 : n ≤ 1099511627776 := by omega
  have HISB := Lib.hid (fun hw => HI w H.out (k : Int) now hw)
  clear h hyes hno hc4 hc0 him htu HI ho hel
  generalize Lm.length = ln at *
  generalize Lm.getD k 0 = x at *
  by_cases hx : x ≤ 1099511627776
  · have t2 : decide (x < n) = false := by simp; omega
    clear ho'
    go_enter Try.func18, Try.ntmps18
    go_wp2_with fail
    refine (HISB.out hkw).mono ?_
    rintro e w1 ⟨rfl, rfl⟩
    cases hb : isB E (k : Int) now with
    | true =>
      have HF := Lib.hid (HNO.out hb)
      clear hb
      go_wp2_with fail
      all_goals
        go_ret
        exact HF.out
    | false =>
      have HF := Lib.hid (HY.out hb)
      clear hb
      go_wp2_with fail
      all_goals
        go_ret
        exact HF.out
  · have t2 : decide (1099511627776 < n) = false := by simp; omega
    have t2' : ¬ 1099511627776 < n := by omega
    clear ho'
    go_enter Try.func18, Try.ntmps18
    go_wp2_with fail
    refine (HISB.out hkw).mono ?_
    rintro e w1 ⟨rfl, rfl⟩
    cases hb : isB E (k : Int) now with
    | true =>
      have HF := Lib.hid (HNO.out hb)
      clear hb
      go_wp2_with fail
      all_goals
        go_ret
        exact HF.out
    | false =>
      have HF := Lib.hid (HY.out hb)
      clear hb
      go_wp2_with fail
      all_goals
        go_ret
        exact HF.out

theorem put_any {B : Nat} {w : World} {t m cn : Nat} {Lm E : List Int} (h : Tb B w t m cn Lm E) (hcn : cn < maxLen) (i n now : Int) :
    Calls Try.prog 18 #[.pointer (some ⟨t, 0, none⟩), .int .i64 i, .int .i64 n, .int .i64 now] w (PutP B w t m cn Lm E i n now) := by
  by_cases hi : 0 ≤ i ∧ i < Lm.length
  · obtain ⟨k, rfl⟩ := Int.eq_ofNat_of_zero_le hi.1
    cases ho : okP Lm (k : Int) n now with
    | true => exact put_in h hcn k n now (by omega) ho
    | false => exact put_arg h k n now (by omega) ho
  · exact put_none h i n now hi
end Go.Proofs.Ytfloceoopjokcaa
