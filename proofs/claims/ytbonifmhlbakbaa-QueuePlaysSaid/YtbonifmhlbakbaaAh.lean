/- The walk of QueueAhead. -/
import Derived.Test.YtbonifmhlbakbaaAh0
namespace Go.Proofs.Ytbonifmhlbakbaa
set_option linter.unusedVariables false
open Go.ChangeShapes Go.WideShapes Go.ChangeAt Go.RowKit

/-- What is known between two rounds: what waits, and the two rows of numbers that say so. -/
structure Ahd (Bq B1 : Nat) (W w : World) (d cu co : Nat) (u o : Value) (X Y : List Int) : Prop where
  q : Q Bq w d cu co 64 (X.map iv) (Y.map iv)
  low : Below W.heap.size W w
  sz : B1 ≤ w.heap.size
  ou : OwnI B1 w u X
  oo : OwnI B1 w o Y
  ne : ∀ g, u.ownBlock = some g → o.ownBlock = some g → False

def pushI (X : List Int) (x : Int) : List Int := if X.length < 64 then X ++ [x] else X
theorem pushI_map (X : List Int) (x : Int) : pushL 64 (X.map iv) (iv x) = (pushI X x).map iv := by
  unfold pushL pushI
  rw [List.length_map]
  split <;> simp

theorem pushI_len {X : List Int} {x : Int} (h : X.length < 64) : pushI X x = X ++ [x] := if_pos h

theorem Ahd.pushU {Bq B1 : Nat} {W w w3 w' : World} {d cu co : Nat} {u o v' : Value} {X Y : List Int} {x : Int} (h : Ahd Bq B1 W w d cu co u o X Y) (hW : W.heap.size ≤ B1) (hd : d < B1) (hcu : cu < B1) (hco : co < B1)
    (hq : Q Bq w3 d cu co 64 ((pushI X x).map iv) (Y.map iv)) (hl : Below W.heap.size W w3) (hk : Kept cu co w.drew w3) (hr : X.length < 64)
    (hv : OwnI B1 w' v' (X ++ [x])) (hg : w3.grownBy w' u.ownBlock) (hat : v'.ownBlock = u.ownBlock ∨ v'.ownBlock = some (w3.heap.size + 1)) : Ahd Bq B1 W w' d cu co v' o (pushI X x) Y := by
  have ou3 := own_kept (own_drew h.ou) hk hcu hco
  have oo3 := own_kept (own_drew h.oo) hk hcu hco
  have hs : w3.heap.size = w.heap.size := hk.1
  have hsz := h.sz
  refine ⟨hq.grown hg (fun k e => by have := (ou3.lt k e).1; omega), hl.grown hg (by omega) (fun k e => by have := (ou3.lt k e).1; omega), by have := hg.size; omega, by rw [pushI_len hr]; exact hv, ?_, fun g e1 e2 => ?_⟩
  · refine World.ownsRow.kept oo3 hg ?_
    rcases ho : o.ownBlock with _ | g
    · exact .inl rfl
    · exact .inr fun e => h.ne g e.symm ho
  · rcases hat with e | e
    · exact h.ne g (e ▸ e1) e2
    · rw [e] at e1
      have := (oo3.lt g e2).2
      simp at e1
      omega

theorem Ahd.pushO {Bq B1 : Nat} {W w w3 w' : World} {d cu co : Nat} {u o v' : Value} {X Y : List Int} {x : Int} (h : Ahd Bq B1 W w d cu co u o X Y) (hW : W.heap.size ≤ B1) (hd : d < B1) (hcu : cu < B1) (hco : co < B1)
    (hq : Q Bq w3 d cu co 64 (X.map iv) ((pushI Y x).map iv)) (hl : Below W.heap.size W w3) (hk : Kept cu co w.drew w3) (hr : Y.length < 64)
    (hv : OwnI B1 w' v' (Y ++ [x])) (hg : w3.grownBy w' o.ownBlock) (hat : v'.ownBlock = o.ownBlock ∨ v'.ownBlock = some (w3.heap.size + 1)) : Ahd Bq B1 W w' d cu co u v' X (pushI Y x) := by
  have ou3 := own_kept (own_drew h.ou) hk hcu hco
  have oo3 := own_kept (own_drew h.oo) hk hcu hco
  have hs : w3.heap.size = w.heap.size := hk.1
  have hsz := h.sz
  refine ⟨hq.grown hg (fun k e => by have := (oo3.lt k e).1; omega), hl.grown hg (by omega) (fun k e => by have := (oo3.lt k e).1; omega), by have := hg.size; omega, ?_, by rw [pushI_len hr]; exact hv, fun g e1 e2 => ?_⟩
  · refine World.ownsRow.kept ou3 hg ?_
    rcases hu : u.ownBlock with _ | g
    · exact .inl rfl
    · exact .inr fun e => h.ne g hu e.symm
  · rcases hat with e | e
    · exact h.ne g e1 (e ▸ e2)
    · rw [e] at e2
      have := (ou3.lt g e1).2
      simp at e2
      omega

theorem Ahd.full {Bq B1 : Nat} {W w w3 : World} {d cu co : Nat} {u o : Value} {X Y X' Y' : List Int} (h : Ahd Bq B1 W w d cu co u o X Y) (hcu : cu < B1) (hco : co < B1)
    (hq : Q Bq w3 d cu co 64 (X'.map iv) (Y'.map iv)) (hX : X' = X) (hY : Y' = Y) (hl : Below W.heap.size W w3) (hk : Kept cu co w.drew w3) : Ahd Bq B1 W w3 d cu co u o X Y := by
  subst hX hY
  exact ⟨hq, hl, by have := hk.1; have := h.sz; simp at *; omega, own_kept (own_drew h.ou) hk hcu hco, own_kept (own_drew h.oo) hk hcu hco, h.ne⟩

theorem own_form {B : Nat} {w : World} {v : Value} {X : List Int} (h : OwnI B w v X) : ∃ a c, v = .slice a X.length c := by
  obtain ⟨_, ⟨h1, h0⟩ | ⟨g, cap, cur, hv, _⟩⟩ := h
  · exact ⟨none, 0, by rw [h1, h0]⟩
  · exact ⟨_, _, hv⟩

/-- A row that the call owns, appended to another one. -/
theorem wpList_append_row {ops : Array Oper} {rest : List Oper} {o : Oper} {a : Act} {Q' : Exit → Act → World → Prop} (hgd : o.guard = none) (s x : Operand)
    (ho : o.op = .call { callee := .builtin .append, args := #[s, x], argTypes := #[37, 37] }) (w : World) (B Bx : Nat) (hB : B ≤ w.heap.size) (g c : Nat) (Z Y : List Int) (n : Nat) (hn : n = Z.length) (vx : Value) (hs : a.eval s = .slice (some ⟨g, 0, none⟩) n c)
    (hown : OwnI B w (.slice (some ⟨g, 0, none⟩) n c) Z) (hx : a.eval x = vx) (hox : OwnI Bx w vx Y) (hle : n + Y.length ≤ 10000)
    (h : ∀ g' c' w', OwnI B w' (.slice (some ⟨g', 0, none⟩) (n + Y.length) c') (Z ++ Y) → w.grownBy w' (some g) → wpList Try.prog ops Q' rest (a.put o.dst (.slice (some ⟨g', 0, none⟩) (n + Y.length) c')) w') :
    wpList Try.prog ops Q' (o :: rest) a w := by
  subst hn
  obtain ⟨ti, hi, hz0, hz1, hz2⟩ := info_parts info3
  obtain ⟨hl, ⟨h1, h0⟩ | ⟨gx, capx, curx, hv, hb, hh, hlx, hm, hsx, ht⟩⟩ := hox
  · have hY : Y = [] := List.eq_nil_of_length_eq_zero h0
    subst hY
    refine wpList_append_own_none hgd s x 37 ho B 3 ti 1 Try.underlying37 hi _ Z.length (Z.map iv) hs hown (hx.trans h1) ?_
    have := h g c w (by simpa using hown) ⟨rfl, rfl, rfl, Nat.le_refl _, fun _ _ _ => rfl⟩
    simpa using this
  · refine wpList_append_own _ hgd s x 37 ho B 3 ti (.int .i64 0) 1 8 Try.underlying37 hi hz0 hz1 hz2 rfl (by decide) _ Z.length (Z.map iv) hs hown ⟨gx, 0, none⟩ Y.length capx (Y.map iv) (hx.trans hv) (by simp) (World.ownsRow.cells ⟨hl, .inr ⟨gx, capx, curx, hv, hb, hh, hlx, hm, hsx, ht⟩⟩ (by rw [hv]; rfl)) (by simp [Value.oneCell']) (by unfold maxLen; omega) (by omega) hB ?_
    intro v' w' hown' hg hnn
    obtain ⟨q1, ⟨q2, q3⟩ | ⟨g', cap', cur', hv', hrest⟩⟩ := hown'
    · have := (hnn.1 q2).1
      simp at this
    · subst hv'
      refine h g' cap' w' ?_ hg
      have := (show w'.ownsRow B 3 1 (.slice (some ⟨g', 0, none⟩) (Z.length + Y.length) cap') (Z.length + Y.length) (Z.map iv ++ Y.map iv) from ⟨q1, .inr ⟨g', cap', cur', rfl, hrest⟩⟩)
      simpa [OwnI] using this

theorem own_new {B : Nat} {w : World} (hB : B ≤ w.heap.size) : OwnI B (w.alloc (.cells #[] 3 (0, 0))) (.slice (some ⟨w.heap.size, 0, none⟩) 0 0) [] :=
  ⟨rfl, .inr ⟨w.heap.size, 0, #[], rfl, hB, heap_alloc_new w _, Nat.le_refl _, Nat.zero_le _, rfl, rfl⟩⟩

set_option maxRecDepth 100000 in
set_option maxHeartbeats 4000000 in
theorem ahead_walk (a : Option Addr) (len cap : Nat) (g : Nat → Opn) (w : World) (h : Sl w a len g) :
    Calls Try.prog 4 #[.slice a len cap] w fun e w' => e = .returned (.bool true) ∧ Below w.heap.size w w' := by
  have hl := h.1.le
  unfold maxLen at hl
  have H := Lib.hid h
  clear h
  go_enter Try.func4, Try.ntmps4
  go_wp2_with fail
  refine (head_any w).mono ?_
  rintro e w0 ⟨rfl, hb⟩
  have B0 := Lib.hid hb
  have hs0 := hb.size
  clear hb
  go_wp2_with fail
  refine (new_int 64 w0).mono ?_
  rintro e w1 ⟨d, cu, co, rfl, q, b⟩
  rw [show cl 64 = 64 from rfl] at q
  have hd1 := q.dlt
  have hu1 := q.ult
  have ho1 := q.olt
  have hw01 : w.heap.size ≤ w1.heap.size := Nat.le_trans hs0 b.size
  have Q1 := Lib.hid q
  have B1 := Lib.hid (B0.out.trans (b.mono hs0))
  clear q b
  by_cases h5 : 1000 < len
  · have d1 : decide (1000 < (len : Int)) = true := by simp; omega
    go_wp2_with fail
    go_ret
    exact ⟨rfl, B1.out⟩
  have d1 : decide (1000 < (len : Int)) = false := by simp; omega
  go_wp2_with fail
  go_loopw [5, 6, 7] (fun u o i wr => ∃ (k : Nat) (X Y : List Int), k ≤ len ∧ i = .int .i64 k ∧ Ahd w0.heap.size w1.heap.size w wr d cu co u o X Y) (fun _ _ i _ => len - (intOf i).toNat)
  case atStart => exact ⟨0, [], [], Nat.zero_le _, rfl, Q1.out, B1.out, Nat.le_refl _, World.ownsRow_nil _ _ _ _, World.ownsRow_nil _ _ _ _, fun g h => by cases h⟩
  case round =>
    obtain ⟨k, X, Y, hk, rfl, hA⟩ := hrel
    obtain ⟨w2, hw2⟩ : ∃ w2, w2 = wr := ⟨_, rfl⟩
    subst hw2
    have HA := Lib.hid hA
    clear hA
    by_cases hlt : k < len
    · obtain ⟨b, off, rfl, hlt', hcs⟩ := H.out.1.pos (by omega)
      have c1 : ∀ W, Below w.heap.size w W → W.cell? ⟨b, off + k * 3 + 1, none⟩ = some (.bool (g k).2.1) := fun W hW => (hW.cell (p := ⟨b, off + k * 3 + 1, none⟩) hlt').trans (hcs k hlt 1 (by omega))
      have c2 : ∀ W, Below w.heap.size w W → W.cell? ⟨b, off + k * 3 + 2, none⟩ = some (.int .i64 (g k).2.2) := fun W hW => (hW.cell (p := ⟨b, off + k * 3 + 2, none⟩) hlt').trans (hcs k hlt 2 (by omega))
      clear hcs
      generalize (g k).2.1 = ur at c1
      generalize (g k).2.2 = xx at c2
      have e1 := c1 _ HA.out.low
      have e2 := c2 _ HA.out.low
      have C1 := Lib.hid c1
      have C2 := Lib.hid c2
      clear c1 c2
      cases ur
      · go_wp2_with fail
        go_region_with (go_at_call 15; refine (put2_o xx (HA.out.q.below (Below.refl _ _).drew)).mono ?_; rintro e w3 ⟨rfl, hq3, hb3, hk3⟩)
        all_goals
          rw [pushI_map] at hq3
          have hl3 := HA.out.low.drew.trans (hb3.mono hs0)
          have f1 := C1.out _ hl3
          have f2 := C2.out _ hl3
          have HQ3 := Lib.hid hq3
          have HL3 := Lib.hid hl3
          have HK3 := Lib.hid hk3
          have hsz3 : w3.heap.size = w2.heap.size := hk3.1
          have hB1 : w1.heap.size ≤ w3.heap.size := by rw [hsz3]; exact HA.out.sz
          clear hq3 hl3 hk3 hb3 e1 e2 hsz3
          by_cases hr : Y.length < 64
          · rw [show room 64 (Y.map iv) = true by rw [room_map]; simpa using hr]
            have ho3 := own_kept (own_drew HA.out.oo) HK3.out hu1 ho1
            have HO3 := Lib.hid ho3
            clear ho3
            go_wp2_with (at_builtin; refine wpList_append_one rfl (.tmp 59) (.tmp 65) rfl w1.heap.size _ hB1 _ Y xx rfl HO3.out rfl (by omega) ?_)
            intro v' w4 hv4 hg4 hat4
            have HA4 := Lib.hid (HA.out.pushO hw01 hd1 hu1 ho1 HQ3.out HL3.out HK3.out hr hv4 hg4 hat4)
            clear hv4 hg4 hat4 f1 f2
            go_wp2_with fail
            go_roundw
            case rel => exact ⟨k + 1, X, pushI Y xx, by omega, by go_num, HA4.out⟩
            case measure => simp [intOf]; omega
          · rw [show room 64 (Y.map iv) = false by rw [room_map]; simpa using hr]
            have HA4 := Lib.hid (HA.out.full hu1 ho1 HQ3.out rfl (if_neg hr) HL3.out HK3.out)
            clear f1 f2
            go_wp2_with fail
            go_roundw
            case rel => exact ⟨k + 1, X, Y, by omega, by go_num, HA4.out⟩
            case measure => simp [intOf]; omega
      · go_wp2_with fail
        go_region_with (go_at_call 15; refine (put2_u xx (HA.out.q.below (Below.refl _ _).drew)).mono ?_; rintro e w3 ⟨rfl, hq3, hb3, hk3⟩)
        all_goals
          rw [pushI_map] at hq3
          have hl3 := HA.out.low.drew.trans (hb3.mono hs0)
          have f1 := C1.out _ hl3
          have f2 := C2.out _ hl3
          have HQ3 := Lib.hid hq3
          have HL3 := Lib.hid hl3
          have HK3 := Lib.hid hk3
          have hsz3 : w3.heap.size = w2.heap.size := hk3.1
          have hB1 : w1.heap.size ≤ w3.heap.size := by rw [hsz3]; exact HA.out.sz
          clear hq3 hl3 hk3 hb3 e1 e2 hsz3
          by_cases hr : X.length < 64
          · rw [show room 64 (X.map iv) = true by rw [room_map]; simpa using hr]
            have ho3 := own_kept (own_drew HA.out.ou) HK3.out hu1 ho1
            have HO3 := Lib.hid ho3
            clear ho3
            go_wp2_with (at_builtin; refine wpList_append_one rfl (.tmp 51) (.tmp 57) rfl w1.heap.size _ hB1 _ X xx rfl HO3.out rfl (by omega) ?_)
            intro v' w4 hv4 hg4 hat4
            have HA4 := Lib.hid (HA.out.pushU hw01 hd1 hu1 ho1 HQ3.out HL3.out HK3.out hr hv4 hg4 hat4)
            clear hv4 hg4 hat4 f1 f2
            go_wp2_with fail
            go_roundw
            case rel => exact ⟨k + 1, pushI X xx, Y, by omega, by go_num, HA4.out⟩
            case measure => simp [intOf]; omega
          · rw [show room 64 (X.map iv) = false by rw [room_map]; simpa using hr]
            have HA4 := Lib.hid (HA.out.full hu1 ho1 HQ3.out (if_neg hr) rfl HL3.out HK3.out)
            clear f1 f2
            go_wp2_with fail
            go_roundw
            case rel => exact ⟨k + 1, X, Y, by omega, by go_num, HA4.out⟩
            case measure => simp [intOf]; omega
    · have hk' : k = len := by omega
      subst hk'
      clear hk
      have hX64 : X.length ≤ 64 := by have := HA.out.q.lu; simpa using this
      have hY64 : Y.length ≤ 64 := by have := HA.out.q.lo; simpa using this
      obtain ⟨au, cu', rfl⟩ := own_form HA.out.ou
      obtain ⟨ao, co', rfl⟩ := own_form HA.out.oo
      have hB1 : w1.heap.size ≤ w2.heap.size := HA.out.sz
      have HU := Lib.hid (HA.out.ou.alloc (.cells #[] 3 (0, 0)))
      go_wp2_with (at_builtin; refine wpList_append_row rfl (.tmp 67) (.tmp 68) rfl _ w2.heap.size w1.heap.size (by simp) w2.heap.size 0 [] X 0 rfl _ rfl (own_new (Nat.le_refl _)) rfl HU.out (by omega) ?_)
      intro g1 c1' w3 ho3 hg3
      have ho3' : OwnI w2.heap.size w3 (.slice (some ⟨g1, 0, none⟩) X.length c1') X := by simpa using ho3
      have hb3 : Below w2.heap.size w2 w3 := (Below.alloc (Below.refl _ _) (Nat.le_refl _) _).grown hg3 (by simp) (fun k hk => by simp at hk; omega)
      have hs3 := hb3.size
      have hoo3 : OwnI w1.heap.size w3 (.slice ao Y.length co') Y := by
        refine World.ownsRow.kept (HA.out.oo.alloc _) hg3 ?_
        rcases hq : (Value.slice ao Y.length co').ownBlock with _ | gq
        · exact .inl rfl
        · refine .inr fun e => ?_
          have := (HA.out.oo.lt gq hq).2
          simp at e
          omega
      have HO3 := Lib.hid ho3'
      have HOO := Lib.hid hoo3
      have HB3 := Lib.hid hb3
      clear ho3 ho3' hg3 hoo3 hb3 hlt HU
      have hg1 := (HO3.out.lt g1 rfl).1
      go_wp2_with (at_builtin; refine wpList_append_row rfl (.tmp 69) (.tmp 70) rfl _ w2.heap.size w1.heap.size hs3 g1 c1' X Y X.length rfl _ rfl HO3.out rfl HOO.out (by omega) ?_)
      intro g2 c2' w4 ho4 hg4
      have hb4 : Below w2.heap.size w2 w4 := HB3.out.grown hg4 hs3 (fun k hk => by simp at hk; omega)
      have hs4 := hb4.size
      have hq4 := HA.out.q.below hb4
      have HQ4 := Lib.hid hq4
      have HO4 : Hid (OwnI w2.heap.size w4 (.slice (some ⟨g2, 0, none⟩) (X.length + Y.length) c2') (X ++ Y)) := Lib.hid ho4
      have HL4 := Lib.hid (HA.out.low.trans (hb4.mono HA.out.low.size))
      have hg2 := (ho4.lt g2 rfl).1
      clear ho4 hg4 hb4 hq4 HB3 HOO HO3
      obtain ⟨T, hT⟩ : ∃ T, T = X.length + Y.length := ⟨_, rfl⟩
      have hT128 : T ≤ 128 := by omega
      rw [← hT] at HO4 ⊢
      have HT := Lib.hid hT
      clear hT
      have hcT : c2' ≤ maxLen ∧ T ≤ c2' := by
        obtain ⟨_, ⟨q2, _⟩ | ⟨g', cap', cur', hv', _, _, hle, hmx, _⟩⟩ := HO4.out
        · simp at q2
        · simp at hv'
          rw [hv'.2.2]
          exact ⟨hmx, by simpa [HT.out] using hle⟩
      have hcT1 := hcT.1
      have hcT2 := hcT.2
      unfold maxLen at hcT1
      clear hcT
      go_wp2_with fail
      go_loopw [9, 10, 11] (fun i _ _ wr => ∃ (j : Nat) (X' Y' : List Int), j ≤ T ∧ i = .int .i64 j ∧ X' ++ Y' = (X ++ Y).drop j ∧ Q w0.heap.size wr d cu co 64 (X'.map iv) (Y'.map iv) ∧ OwnI w2.heap.size wr (.slice (some ⟨g2, 0, none⟩) T c2') (X ++ Y) ∧ Below w.heap.size w wr) (fun i _ _ _ => T - (intOf i).toNat)
      case atStart => exact ⟨0, X, Y, Nat.zero_le _, rfl, rfl, HQ4.out, HO4.out, HL4.out⟩
      case round =>
        obtain ⟨j, X', Y', hj, rfl, hd, hq, ho, hb⟩ := hrel
        obtain ⟨w5, hw5⟩ : ∃ w5, w5 = wr := ⟨_, rfl⟩
        subst hw5
        have HD := Lib.hid hd
        have HQ := Lib.hid hq
        have HO := Lib.hid ho
        have HB := Lib.hid hb
        clear hd hq ho hb
        have hTl : (X ++ Y).length = T := by rw [List.length_append, HT.out]
        by_cases hlt : j < T
        · have hcell : ∀ x Z, (X ++ Y).drop j = x :: Z → ∀ W, OwnI w2.heap.size W (.slice (some ⟨g2, 0, none⟩) T c2') (X ++ Y) → W.cell? ⟨g2, j, none⟩ = some (.int .i64 x) := by
            intro x Z e W hW
            rw [show OwnI w2.heap.size W (.slice (some ⟨g2, 0, none⟩) T c2') (X ++ Y) = W.ownsRow w2.heap.size 3 1 (.slice (some ⟨g2, 0, none⟩) T c2') (X ++ Y).length ((X ++ Y).map iv) from rfl, hTl] at hW
            rw [World.ownsRow.cellAt hW j (by omega), List.getElem?_map]
            have h0 : ((X ++ Y).drop j)[0]? = some x := by rw [e]; rfl
            rw [List.getElem?_drop] at h0
            rw [show j + 0 = j from rfl] at h0
            rw [h0]; rfl
          have hdrop : ∀ x Z, (X ++ Y).drop j = x :: Z → (X ++ Y).drop (j + 1) = Z := by
            intro x Z e
            rw [← List.drop_drop, e]; rfl
          have HC := Lib.hid hcell
          have HDR := Lib.hid hdrop
          clear hcell hdrop hTl
          cases X' with
          | cons x X' =>
            have hdd : (X ++ Y).drop j = x :: (X' ++ Y') := by rw [← HD.out]; rfl
            have HDD := Lib.hid hdd
            clear hdd
            go_wp2_with fail
            refine (take2_u x (HQ.out)).mono ?_
            rintro e w6 ⟨rfl, hq6, hb6, hk6⟩
            have ho6 := own_kept HO.out hk6 (by omega) (by omega)
            have c6 := HC.out x _ HDD.out _ ho6
            have HQ6 := Lib.hid hq6
            have HO6 := Lib.hid ho6
            have HB6 := Lib.hid (HB.out.trans (hb6.mono hs0))
            clear hq6 hb6 hk6 ho6
            go_wp2_with fail
            go_roundw
            case rel => exact ⟨j + 1, X', Y', by omega, by go_num, (HDR.out _ _ HDD.out).symm, HQ6.out, HO6.out, HB6.out⟩
            case measure => simp [intOf]; omega
          | nil =>
            cases Y' with
            | cons x Y' =>
              have hdd : (X ++ Y).drop j = x :: Y' := by rw [← HD.out]; rfl
              have HDD := Lib.hid hdd
              clear hdd
              go_wp2_with fail
              refine (take2_o x (HQ.out)).mono ?_
              rintro e w6 ⟨rfl, hq6, hb6, hk6⟩
              have ho6 := own_kept HO.out hk6 (by omega) (by omega)
              have c6 := HC.out x _ HDD.out _ ho6
              have HQ6 := Lib.hid hq6
              have HO6 := Lib.hid ho6
              have HB6 := Lib.hid (HB.out.trans (hb6.mono hs0))
              clear hq6 hb6 hk6 ho6
              go_wp2_with fail
              go_roundw
              case rel => exact ⟨j + 1, [], Y', by omega, by go_num, (HDR.out _ _ HDD.out).symm, HQ6.out, HO6.out, HB6.out⟩
              case measure => simp [intOf]; omega
            | nil =>
              have : ((X ++ Y).drop j).length = 0 := by rw [← HD.out]; rfl
              rw [List.length_drop, List.length_append, ← HT.out] at this
              omega
        · have hjT : j = T := by omega
          have he : X' ++ Y' = [] := by rw [HD.out]; exact List.drop_eq_nil_of_le (by omega)
          obtain ⟨rfl, rfl⟩ := List.append_eq_nil_iff.1 he
          subst hjT
          clear he hTl
          have l1 : decide ((X.length : Int) ≤ 64) = true := decide_eq_true (by omega)
          have l2 : decide ((Y.length : Int) ≤ 64) = true := decide_eq_true (by omega)
          go_wp2_with fail
          refine (take_int_n' HQ.out).mono ?_
          rintro e w6 ⟨rfl, hq6, hb6⟩
          have HB6 := Lib.hid (HB.out.trans (hb6.mono hs0))
          clear hq6 hb6
          go_wp2_with fail
          go_ret
          exact ⟨rfl, HB6.out⟩
end Go.Proofs.Ytbonifmhlbakbaa
