/- Contracts of the votes. -/
import Derived.Test.YtblcihpojnfhfaaStructs
namespace Go.Proofs.Ytblcihpojnfhfaa
set_option linter.unusedVariables false
open Go.ChangeShapes Go.WideShapes Go.ChangeAt Go.RowKit

/-- One that may vote: does it trip, is it bad, is it bypassed. -/
abbrev I := Bool × Bool × Bool
def inV (x : I) : List Value := [.bool x.1, .bool x.2.1, .bool x.2.2]
def votesF (x : I) : Bool := !x.2.2
def yesF (x : I) : Bool := !x.2.2 && (x.1 || x.2.1)
def cnt (f : I → Bool) (g : Nat → I) : Nat → Nat
  | 0 => 0
  | n + 1 => cnt f g n + if f (g n) then 1 else 0
theorem cnt_le (f : I → Bool) (g : Nat → I) (n : Nat) : cnt f g n ≤ n := by
  induction n with
  | zero => simp [cnt]
  | succ n ih => simp only [cnt]; split <;> omega

abbrev Sl (w : World) (a : Option Addr) (len : Nat) (g : Nat → I) : Prop := RowS w a len 3 (fun i => inV (g i))

theorem RowS.below {W w : World} {a : Option Addr} {len sz : Nat} {V : Nat → List Value} (h : RowS W a len sz V) (hb : Below W.heap.size W w) : RowS w a len sz V := by
  refine ⟨h.le, ?_⟩
  rcases h.at' with z | ⟨b, off, ha, hlt, hc⟩
  · exact .inl z
  · exact .inr ⟨b, off, ha, Nat.lt_of_lt_of_le hlt hb.size, fun i hi j hj => (hb.cell (p := ⟨b, off + (i * sz + j), none⟩) hlt).trans (hc i hi j hj)⟩

theorem bcell {W w1 : World} (hb : Below W.heap.size W w1) : (∀ b o, b < W.heap.size → w1.cell? ⟨b, o, none⟩ = W.cell? ⟨b, o, none⟩) ∧ (∀ b o, b < W.heap.size → w1.frozen? ⟨b, o, none⟩ = W.frozen? ⟨b, o, none⟩) :=
  ⟨fun b o h => hb.cell (p := ⟨b, o, none⟩) h, fun b o h => hb.frozen (p := ⟨b, o, none⟩) h⟩

theorem votes_any (a : Option Addr) (len cap k : Nat) (g : Nat → I) (w : World) (h : Sl w a len g) (hk : k < len) :
    Calls Try.prog 19 #[.agg #[.slice a len cap], .int .i64 k] w fun e w' => e = .returned (.bool (votesF (g k))) ∧ Below w.heap.size w w' := by
  have hl := h.le
  unfold maxLen at hl
  obtain ⟨b, off, rfl, hlt, hc⟩ := h.pos (by omega)
  have c2 : w.cell? ⟨b, off + k * 3 + 2, none⟩ = some (.bool (g k).2.2) := hc k hk 2 (by omega)
  clear hc h
  go_enter Try.func19, Try.ntmps19
  go_wp2_with fail
  go_ret
  exact ⟨rfl, by go_grown⟩

theorem yes_any (a : Option Addr) (len cap k : Nat) (g : Nat → I) (w : World) (h : Sl w a len g) (hk : k < len) :
    Calls Try.prog 18 #[.agg #[.slice a len cap], .int .i64 k] w fun e w' => e = .returned (.bool (yesF (g k))) ∧ Below w.heap.size w w' := by
  have hl := h.le
  unfold maxLen at hl
  have H := Lib.hid h
  obtain ⟨b, off, rfl, hlt, hc⟩ := h.pos (by omega)
  have c0 : w.cell? ⟨b, off + k * 3, none⟩ = some (.bool (g k).1) := hc k hk 0 (by omega)
  have c1 : w.cell? ⟨b, off + k * 3 + 1, none⟩ = some (.bool (g k).2.1) := hc k hk 1 (by omega)
  have hy : yesF (g k) = (votesF (g k) && ((g k).1 || (g k).2.1)) := rfl
  rw [hy]
  clear hc h hy
  generalize hv : votesF (g k) = v
  generalize hx : (g k).1 = x at c0
  generalize hz : (g k).2.1 = z at c1
  have HV := Lib.hid hv
  have C0 := Lib.hid c0
  have C1 := Lib.hid c1
  clear hv hx hz c0 c1
  go_enter Try.func18, Try.ntmps18
  go_wp2_with fail
  refine (votes_any _ _ _ k g _ (H.out.below (by go_grown)) hk).mono ?_
  rintro e w1 ⟨rfl, hb⟩
  rw [HV.out]
  obtain ⟨hc, hf⟩ := bcell hb
  have c0 := C0.out
  have c1 := C1.out
  cases v <;> cases x
  all_goals
    go_wp2_with fail
    go_ret
    exact ⟨rfl, Below.trans (by go_grown) (hb.mono (by simp))⟩

theorem many_votes (a : Option Addr) (len cap : Nat) (g : Nat → I) (w : World) (h : Sl w a len g) :
    Calls Try.prog 17 #[.slice a len cap, .func (.func 19) #[.agg #[.slice a len cap]] #[]] w fun e w' => e = .returned (.int .i64 (cnt votesF g len)) ∧ Below w.heap.size w w' := by
  have hl := h.le
  unfold maxLen at hl
  have H := Lib.hid h
  clear h
  go_enter Try.func17, Try.ntmps17
  go_wp2_with fail
  go_loopw [5, 9] (fun n i wr => ∃ k : Nat, k ≤ len ∧ i = .int .i64 k ∧ n = .int .i64 (cnt votesF g k) ∧ Below w.heap.size w wr) (fun _ i _ => len - (intOf i).toNat)
  case atStart => exact ⟨0, Nat.zero_le _, rfl, rfl, Below.refl _ _⟩
  case round =>
    obtain ⟨k, hk, rfl, rfl, hb⟩ := hrel
    have hc := cnt_le votesF g k
    by_cases hlt : k < len
    · go_wp2_with fail
      refine (votes_any a len cap k g _ (H.out.below hb) hlt).mono ?_
      rintro e w1 ⟨rfl, hb1⟩
      have hb2 := hb.trans (hb1.mono hb.size)
      have e : cnt votesF g (k + 1) = cnt votesF g k + if votesF (g k) then 1 else 0 := rfl
      have E := Lib.hid e
      clear e
      generalize hv : votesF (g k) = v at E
      cases v
      all_goals
        have E' := Lib.hid E.out
        go_wp2_with fail
        go_roundw
        case rel => exact ⟨k + 1, by omega, by go_num, by rw [E.out]; simp, hb2⟩
        case measure => simp [intOf]; omega
    · have hk' : k = len := by omega
      subst hk'
      go_wp2_with fail
      go_ret
      exact ⟨rfl, hb⟩
theorem many_yes (a : Option Addr) (len cap : Nat) (g : Nat → I) (w : World) (h : Sl w a len g) :
    Calls Try.prog 17 #[.slice a len cap, .func (.func 18) #[.agg #[.slice a len cap]] #[]] w fun e w' => e = .returned (.int .i64 (cnt yesF g len)) ∧ Below w.heap.size w w' := by
  have hl := h.le
  unfold maxLen at hl
  have H := Lib.hid h
  clear h
  go_enter Try.func17, Try.ntmps17
  go_wp2_with fail
  go_loopw [5, 9] (fun n i wr => ∃ k : Nat, k ≤ len ∧ i = .int .i64 k ∧ n = .int .i64 (cnt yesF g k) ∧ Below w.heap.size w wr) (fun _ i _ => len - (intOf i).toNat)
  case atStart => exact ⟨0, Nat.zero_le _, rfl, rfl, Below.refl _ _⟩
  case round =>
    obtain ⟨k, hk, rfl, rfl, hb⟩ := hrel
    have hc := cnt_le yesF g k
    by_cases hlt : k < len
    · go_wp2_with fail
      refine (yes_any a len cap k g _ (H.out.below hb) hlt).mono ?_
      rintro e w1 ⟨rfl, hb1⟩
      have hb2 := hb.trans (hb1.mono hb.size)
      have e : cnt yesF g (k + 1) = cnt yesF g k + if yesF (g k) then 1 else 0 := rfl
      have E := Lib.hid e
      clear e
      generalize hv : yesF (g k) = v at E
      cases v
      all_goals
        have E' := Lib.hid E.out
        go_wp2_with fail
        go_roundw
        case rel => exact ⟨k + 1, by omega, by go_num, by rw [E.out]; simp, hb2⟩
        case measure => simp [intOf]; omega
    · have hk' : k = len := by omega
      subst hk'
      go_wp2_with fail
      go_ret
      exact ⟨rfl, hb⟩

theorem yes_all (a : Option Addr) (len cap : Nat) (g : Nat → I) (w : World) (h : Sl w a len g) :
    Calls Try.prog 9 #[.slice a len cap] w fun e w' => e = .returned (.int .i64 (cnt yesF g len)) ∧ Below w.heap.size w w' := by
  have H := Lib.hid h
  clear h
  go_enter Try.func9, Try.ntmps9
  go_wp2_with fail
  refine (many_yes a len cap g _ (H.out.below (by go_grown))).mono ?_
  rintro e w1 ⟨rfl, hb⟩
  go_wp2_with fail
  go_ret
  exact ⟨rfl, Below.trans (by go_grown) (hb.mono (by simp))⟩

def needF (n : Int) (c : Nat) : Int := if (c : Int) < (if n < 1 then 1 else n) then c else (if n < 1 then 1 else n)
theorem needF_bd (n : Int) (c : Nat) : 0 ≤ needF n c ∧ needF n c ≤ c := by unfold needF; split <;> split at * <;> omega

theorem need_all (n : Int) (a : Option Addr) (len cap : Nat) (g : Nat → I) (w : World) (h : Sl w a len g) :
    Calls Try.prog 11 #[.int .i64 n, .slice a len cap] w fun e w' => e = .returned (.int .i64 (needF n (cnt votesF g len))) ∧ Below w.heap.size w w' := by
  have H := Lib.hid h
  clear h
  go_enter Try.func11, Try.ntmps11
  go_wp2_with fail
  all_goals
    refine (many_votes a len cap g _ (H.out.below (by go_grown))).mono ?_
    rintro e w1 ⟨rfl, hb⟩
    go_wp2_with fail
    all_goals
      go_ret
      exact ⟨bret_int (by unfold needF; (repeat' split) <;> omega), Below.trans (by go_grown) (hb.mono (by simp))⟩

def tripsF (n : Int) (g : Nat → I) (len : Nat) : Bool := decide (0 < needF n (cnt votesF g len)) && decide (needF n (cnt votesF g len) ≤ (cnt yesF g len : Int))

theorem trips_all (n : Int) (a : Option Addr) (len cap : Nat) (g : Nat → I) (w : World) (h : Sl w a len g) :
    Calls Try.prog 13 #[.int .i64 n, .slice a len cap] w fun e w' => e = .returned (.bool (tripsF n g len)) ∧ Below w.heap.size w w' := by
  have H := Lib.hid h
  clear h
  have ht : tripsF n g len = (decide (0 < needF n (cnt votesF g len)) && decide (needF n (cnt votesF g len) ≤ (cnt yesF g len : Int))) := rfl
  rw [ht]
  clear ht
  generalize hk0 : needF n (cnt votesF g len) = k
  have HK := Lib.hid hk0
  clear hk0
  by_cases hk : 0 < k
  · go_enter Try.func13, Try.ntmps13
    go_wp2_with fail
    refine (need_all n a len cap g _ H.out).mono ?_
    rintro e w1 ⟨rfl, hb⟩
    rw [HK.out]
    go_wp2_with fail
    refine (yes_all a len cap g _ (H.out.below hb)).mono ?_
    rintro e w2 ⟨rfl, hb2⟩
    go_wp2_with fail
    go_ret
    exact ⟨bret_bool (by simp [hk]), hb.trans (hb2.mono hb.size)⟩
  · have hd : decide (0 < k) = false := by simpa using hk
    go_enter Try.func13, Try.ntmps13
    go_wp2_with fail
    refine (need_all n a len cap g _ H.out).mono ?_
    rintro e w1 ⟨rfl, hb⟩
    rw [HK.out]
    go_wp2_with fail
    go_ret
    exact ⟨bret_bool (by rw [hd]; rfl), hb⟩

def healthyF (n : Int) (g : Nat → I) (len : Nat) : Bool := (((cnt votesF g len : Nat) : Int) == (len : Int)) && !tripsF n g len

theorem healthy_all (n : Int) (a : Option Addr) (len cap : Nat) (g : Nat → I) (w : World) (h : Sl w a len g) :
    Calls Try.prog 15 #[.int .i64 n, .slice a len cap] w fun e w' => e = .returned (.bool (healthyF n g len)) ∧ Below w.heap.size w w' := by
  have H := Lib.hid h
  clear h
  have ht : healthyF n g len = ((((cnt votesF g len : Nat) : Int) == (len : Int)) && !tripsF n g len) := rfl
  rw [ht]
  clear ht
  generalize ht0 : tripsF n g len = t
  generalize hk0 : cnt votesF g len = c
  have HT := Lib.hid ht0
  have HK := Lib.hid hk0
  clear ht0 hk0
  cases hk : ((c : Int) == (len : Int))
  · go_enter Try.func15, Try.ntmps15
    go_wp2_with fail
    refine (many_votes a len cap g _ (H.out.below (by go_grown))).mono ?_
    rintro e w1 ⟨rfl, hb⟩
    rw [HK.out]
    go_wp2_with fail
    go_ret
    exact ⟨rfl, Below.trans (by go_grown) (hb.mono (by simp))⟩
  · go_enter Try.func15, Try.ntmps15
    go_wp2_with fail
    refine (many_votes a len cap g _ (H.out.below (by go_grown))).mono ?_
    rintro e w1 ⟨rfl, hb⟩
    rw [HK.out]
    have hb1 : Below w.heap.size w w1 := Below.trans (by go_grown) (hb.mono (by simp))
    go_wp2_with fail
    refine (trips_all n a len cap g _ (H.out.below hb1)).mono ?_
    rintro e w2 ⟨rfl, hb2⟩
    rw [HT.out]
    go_wp2_with fail
    go_ret
    exact ⟨rfl, hb1.trans (hb2.mono hb1.size)⟩

end Go.Proofs.Ytblcihpojnfhfaa
