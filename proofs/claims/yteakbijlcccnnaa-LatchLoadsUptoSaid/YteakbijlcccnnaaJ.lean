/- The document's row: At, First, All, Same. -/
import Derived.Test.YteakbijlcccnnaaI
import Derived.Deep.DrawnRows
namespace Go.Proofs.Yteakbijlcccnnaa
set_option linter.unusedVariables false
open Go.ChangeShapes Go.WideShapes Go.ChangeAt Go.RowKit
attribute [local go_sem ↓] Go.wp_at_zero Go.wp_at_succ

theorem below_drewN {B : Nat} {w w' : World} (h : Below B w w') (n : Nat) : Below B w (w'.drewN n) := ⟨h.os, h.tape, h.output, h.size, h.block⟩
/-- Latches as cells. -/
def cl (S : List La) : List Value := S.flatMap fun x => [.bool x.st, .int .i64 x.tm, .bool x.fi]
theorem cl_cons (x : La) (S : List La) : cl (x :: S) = .bool x.st :: .int .i64 x.tm :: .bool x.fi :: cl S := by simp [cl]
theorem cl_len (S : List La) : (cl S).length = S.length * 3 := by
  induction S with
  | nil => rfl
  | cons x S ih => rw [cl_cons]; simp only [List.length_cons, ih]; omega
theorem cl_app (S T : List La) : cl (S ++ T) = cl S ++ cl T := by simp [cl]
theorem cl_one (S : List La) : ∀ v ∈ cl S, v.oneCell' = true := by
  intro v hv
  simp [cl] at hv
  obtain ⟨a, _, h⟩ := hv
  rcases h with rfl | rfl | rfl <;> rfl
theorem cl_at (S : List La) (i : Nat) (h : i < S.length) : (cl S)[i * 3]? = some (.bool (sg S i).st) ∧ (cl S)[i * 3 + 1]? = some (.int .i64 (sg S i).tm) ∧ (cl S)[i * 3 + 2]? = some (.bool (sg S i).fi) := by
  induction S generalizing i with
  | nil => simp at h
  | cons x S ih =>
    rw [cl_cons]
    cases i with
    | zero => simp [sg]
    | succ i =>
      have := ih i (by simpa using h)
      have e0 : (i + 1) * 3 = i * 3 + 3 := by omega
      rw [e0]
      simpa [sg] using this
/-- Latches behind a row that the call owns. -/
theorem append_lr {ops : Array Oper} {rest : List Oper} {o : Oper} {ac : Act} {Q : Exit → Act → World → Prop} (hgd : o.guard = none) (s x : Operand)
    (ho : o.op = .call { callee := .builtin .append, args := #[s, x], argTypes := #[30, 30] }) (B : Nat) (w : World) (hB : B ≤ w.heap.size) (v : Value) (hs : ac.eval s = v)
    (hown : w.ownsRow B 37 3 v 0 (cl [])) (hv : v ≠ .slice none 0 0) (a : Option Addr) (len cap : Nat) (M : List La) (hx : ac.eval x = .slice a len cap) (hb : Lr w a len M) (hnil : a = none → cap = 0) (hle : len ≤ 2000000)
    (h : ∀ g c w', B ≤ g → len ≤ c → c ≤ maxLen → Lb w' g len M → w.grownBy w' v.ownBlock → wpList Try.prog ops Q rest (ac.put o.dst (.slice (some ⟨g, 0, none⟩) len c)) w') :
    wpList Try.prog ops Q (o :: rest) ac w := by
  obtain ⟨ti, hi, hz0, hz1, hz2⟩ := info_parts info37
  have fin : ∀ v' w', w'.ownsRow B 37 3 v' len (cl M) → v' ≠ .slice none 0 0 → ∃ g c, v' = .slice (some ⟨g, 0, none⟩) len c ∧ B ≤ g ∧ len ≤ c ∧ c ≤ maxLen ∧ Lb w' g len M := by
    intro v' w' hw hne
    obtain ⟨hl, ⟨hv, h0⟩ | ⟨g, cp, cur, hv, hg, hbk, hl', hm, hsz, ht⟩⟩ := hw
    · exact absurd hv hne
    · refine ⟨g, cp, hv, hg, hl', hm, cur, hbk, fun i hi => ?_⟩
      have hk : ∀ j, j < len * 3 → cur[j]? = (cl M)[j]? := by
        intro j hj
        have h1 : (cur.toList.take (len * 3))[j]? = (cl M)[j]? := by rw [ht]
        rw [List.getElem?_take_of_lt hj] at h1
        rw [← h1, Array.getElem?_toList]
      obtain ⟨q0, q1, q2⟩ := cl_at M i (by rw [hb.ln]; exact hi)
      exact ⟨(hk _ (by omega)).trans q0, (hk _ (by omega)).trans q1, (hk _ (by omega)).trans q2⟩
  cases a with
  | none =>
    obtain rfl := hnil rfl
    have h0 : len = 0 := by
      rcases hb.at' with z | ⟨_, _, e, _⟩
      · exact z
      · cases e
    subst h0
    have hM : M = [] := List.eq_nil_of_length_eq_zero hb.ln
    subst hM
    obtain ⟨g, c, rfl, g1, g2, g3, g4⟩ := fin v w hown hv
    refine wpList_append_own_none hgd s x 30 ho B 37 ti 3 Try.underlying30 hi _ 0 (cl []) hs hown hx ?_
    exact h g c w g1 g2 g3 g4 ⟨rfl, rfl, rfl, Nat.le_refl _, fun _ _ _ => rfl⟩
  | some ad =>
    have hc : ∀ j u, (cl M)[j]? = some u → w.cell? (ad.add j) = some u := by
      intro j u hu
      have hj : j < len * 3 := by
        have := (List.getElem?_eq_some_iff.1 hu).1
        rwa [cl_len, hb.ln] at this
      obtain ⟨b, off, ha, _, hcc⟩ := hb.pos (by omega)
      simp at ha
      subst ha
      rw [addr_at]
      obtain ⟨q0, q1, q2⟩ := hcc (j / 3) (by omega)
      obtain ⟨p0, p1, p2⟩ := cl_at M (j / 3) (by rw [hb.ln]; omega)
      have h3 : j = j / 3 * 3 ∨ j = j / 3 * 3 + 1 ∨ j = j / 3 * 3 + 2 := by omega
      rcases h3 with e | e | e
      · rw [e] at hu ⊢; rw [p0] at hu; rw [← hu]; exact q0
      · rw [e] at hu ⊢; rw [p1] at hu; rw [← hu]; exact q1
      · rw [e] at hu ⊢; rw [p2] at hu; rw [← hu]; exact q2
    refine wpList_append_own_at _ hgd s x 30 ho B 37 ti _ 3 24 Try.underlying30 hi hz0 hz1 hz2 rfl (by decide) v 0 (cl []) hs hown ad len cap (cl M) hx (by rw [cl_len, hb.ln]) hc (cl_one _) (by unfold maxLen; omega) (by omega) hB ?_
    intro v' w' hown' hg hnn hbk
    rw [← cl_app, Nat.zero_add] at hown'
    obtain ⟨g, c, rfl, g1, g2, g3, g4⟩ := fin v' w' hown' (fun e => by exact hv ((hnn.1 e).1))
    exact h g c w' g1 g2 g3 g4 hg

/-- Groups in a block. -/
def Gb (w : World) (gb n : Nat) (G : List Int) : Prop := ∃ arr : Array Value, w.heap[gb]? = some (.cells arr 3 (0, 0)) ∧ ∀ i, i < n → arr[i]? = some (.int .i64 (gg G i))
theorem Gb.same {w w' : World} {gb n : Nat} {G : List Int} (h : Gb w gb n G) (hb : w'.heap[gb]? = w.heap[gb]?) : Gb w' gb n G := by
  obtain ⟨arr, h1, h2⟩ := h; exact ⟨arr, hb.trans h1, h2⟩
theorem Gb.lt {w : World} {gb n : Nat} {G : List Int} (h : Gb w gb n G) : gb < w.heap.size := by obtain ⟨arr, h1, _⟩ := h; exact blk_lt h1
theorem Gb.cell {w : World} {gb n i : Nat} {G : List Int} (h : Gb w gb n G) (hi : i < n) : w.cell? ⟨gb, i, none⟩ = some (.int .i64 (gg G i)) := by
  obtain ⟨arr, h1, h2⟩ := h; simp [World.cell?, h1, h2 i hi]
theorem Lb.same {w w' : World} {g n : Nat} {S : List La} (h : Lb w g n S) (hb : w'.heap[g]? = w.heap[g]?) : Lb w' g n S := by
  obtain ⟨arr, h1, h2⟩ := h; exact ⟨arr, hb.trans h1, h2⟩
theorem Lb.lt {w : World} {g n : Nat} {S : List La} (h : Lb w g n S) : g < w.heap.size := by obtain ⟨arr, h1, _⟩ := h; exact blk_lt h1
theorem Lb.cells {w : World} {g n i : Nat} {S : List La} (h : Lb w g n S) (hi : i < n) : w.cell? ⟨g, i * 3, none⟩ = some (.bool (sg S i).st) ∧ w.cell? ⟨g, i * 3 + 1, none⟩ = some (.int .i64 (sg S i).tm) ∧ w.cell? ⟨g, i * 3 + 2, none⟩ = some (.bool (sg S i).fi) ∧
    w.frozen? ⟨g, i * 3, none⟩ = false ∧ w.frozen? ⟨g, i * 3 + 1, none⟩ = false ∧ w.frozen? ⟨g, i * 3 + 2, none⟩ = false := by
  obtain ⟨arr, h1, h2⟩ := h
  obtain ⟨q0, q1, q2⟩ := h2 i hi
  simp [World.cell?, World.frozen?, h1, q0, q1, q2]
theorem Lb.put {w : World} {g n k : Nat} {S S' : List La} (x : La) (h : Lb w g n S) (hk : k < n) (h1 : sg S' k = x) (h2 : ∀ i, i < n → i ≠ k → sg S' i = sg S i) : Lb (set3 w g (k * 3) x) g n S' := by
  obtain ⟨arr, a1, a2⟩ := h
  have hs : k * 3 + 2 < arr.size := (Array.getElem?_eq_some_iff.1 (a2 k hk).2.2).1
  refine ⟨_, set3_block a1, fun i hi => ?_⟩
  rw [set3_at hs, set3_at hs, set3_at hs]
  by_cases e : i = k
  · subst e
    rw [if_pos rfl, if_neg (by omega), if_pos rfl, if_neg (by omega), if_neg (by omega), if_pos rfl, h1]
    exact ⟨rfl, rfl, rfl⟩
  · rw [if_neg (by omega), if_neg (by omega), if_neg (by omega), if_neg (by omega), if_neg (by omega), if_neg (by omega), if_neg (by omega), if_neg (by omega), if_neg (by omega), h2 i hi e]
    exact a2 i hi
theorem Lb.unmark {w : World} {g n k : Nat} {S S' : List La} (h : Lb w g n S) (hk : k < n) (h1 : sg S' k = ⟨(sg S k).st, (sg S k).tm, false⟩) (h2 : ∀ i, i < n → i ≠ k → sg S' i = sg S i) : Lb (w.setCell ⟨g, k * 3 + 2, none⟩ (.bool false)) g n S' := by
  obtain ⟨arr, a1, a2⟩ := h
  have hs : k * 3 + 2 < arr.size := (Array.getElem?_eq_some_iff.1 (a2 k hk).2.2).1
  refine ⟨_, set_block a1 _ _, fun i hi => ?_⟩
  simp only [Array.getElem?_setIfInBounds]
  obtain ⟨q0, q1, q2⟩ := a2 i hi
  rw [if_neg (by omega), if_neg (by omega), q0, q1]
  by_cases e : i = k
  · subst e
    rw [if_pos rfl, if_pos hs, h1]
    exact ⟨rfl, rfl, rfl⟩
  · rw [if_neg (by omega), q2, h2 i hi e]
    exact ⟨rfl, rfl, rfl⟩

/-- The document's row: groups G in block gb, latches S in block eb; all of it lies at C or behind. -/
structure Rt (C : Nat) (w : World) (t gb eb n : Nat) (G : List Int) (S : List La) : Prop where
  ht : C ≤ t
  he : C ≤ eb
  ln : G.length = n
  le : n ≤ maxLen
  wg : ∀ i, (Lit.int .i64 (gg G i)).wf = true
  wt : ∀ i, (Lit.int .i64 (sg S i).tm).wf = true
  ok : Ok G S
  blk : ∃ ga gc ec, w.heap[t]? = some (.cells #[.slice ga n gc, .slice (some ⟨eb, 0, none⟩) n ec] 52 (0, 0)) ∧ (0 < n → ga = some ⟨gb, 0, none⟩) ∧ n ≤ gc ∧ n ≤ ec ∧ gc ≤ maxLen ∧ ec ≤ maxLen
  gs : 0 < n → Gb w gb n G
  row : Lb w eb n S
section
variable {C t gb eb n : Nat} {w w' : World} {G : List Int} {S : List La}
theorem Rt.lt (h : Rt C w t gb eb n G S) : t < w.heap.size := by
  obtain ⟨ga, gc, ec, h1, _⟩ := h.blk
  exact blk_lt h1
theorem Rt.same (h : Rt C w t gb eb n G S) (h1 : w'.heap[t]? = w.heap[t]?) (h2 : 0 < n → w'.heap[gb]? = w.heap[gb]?) (h3 : w'.heap[eb]? = w.heap[eb]?) : Rt C w' t gb eb n G S := by
  obtain ⟨ga, gc, ec, q1, q2⟩ := h.blk
  exact ⟨h.ht, h.he, h.ln, h.le, h.wg, h.wt, h.ok, ⟨ga, gc, ec, h1.trans q1, q2⟩, fun h0 => (h.gs h0).same (h2 h0), h.row.same h3⟩
theorem Rt.below (h : Rt C w t gb eb n G S) (hb : Below w.heap.size w w') : Rt C w' t gb eb n G S :=
  h.same (hb.block t h.lt) (fun h0 => hb.block gb (h.gs h0).lt) (hb.block eb h.row.lt)
theorem Rt.fs {l : List Nat} (h : Rt C w t gb eb n G S) (hf : Fs l w w') (h1 : t ∉ l) (h2 : 0 < n → gb ∉ l) (h3 : eb ∉ l) : Rt C w' t gb eb n G S :=
  h.same (hf.block t h.lt h1) (fun h0 => hf.block gb (h.gs h0).lt (h2 h0)) (hf.block eb h.row.lt h3)
theorem Rt.apart (h : Rt C w t gb eb n G S) : t ≠ eb ∧ (0 < n → t ≠ gb ∧ gb ≠ eb) := by
  obtain ⟨ga, gc, ec, q1, _⟩ := h.blk
  obtain ⟨a2, r2, _⟩ := h.row
  refine ⟨?_, fun h0 => ?_⟩
  · rintro rfl; rw [q1] at r2; simp at r2
  · obtain ⟨a1, r1, _⟩ := h.gs h0
    refine ⟨?_, ?_⟩
    · rintro rfl; rw [q1] at r1; simp at r1
    · rintro rfl; rw [r1] at r2; simp at r2
theorem Rt.cells (h : Rt C w t gb eb n G S) : ∃ ga gc ec, w.cell? ⟨t, 0, none⟩ = some (.slice ga n gc) ∧ w.cell? ⟨t, 1, none⟩ = some (.slice (some ⟨eb, 0, none⟩) n ec) ∧ w.frozen? ⟨t, 1, none⟩ = false ∧ (0 < n → ga = some ⟨gb, 0, none⟩) ∧ n ≤ gc ∧ n ≤ ec ∧ gc ≤ 9223372036854775807 ∧ ec ≤ 9223372036854775807 := by
  obtain ⟨ga, gc, ec, h1, h2, h4, h5, h6, h7⟩ := h.blk
  unfold maxLen at h6 h7
  exact ⟨ga, gc, ec, by simp [World.cell?, h1], by simp [World.cell?, h1], by simp [World.frozen?, h1], h2, h4, h5, h6, h7⟩
/-- What a call that reads latch i reads. -/
theorem Rt.mem (h : Rt C w t gb eb n G S) {i : Nat} (hi : i < n) : ∃ gc ec, w.cell? ⟨t, 0, none⟩ = some (.slice (some ⟨gb, 0, none⟩) n gc) ∧ w.cell? ⟨t, 1, none⟩ = some (.slice (some ⟨eb, 0, none⟩) n ec) ∧ n ≤ gc ∧ n ≤ ec ∧ gc ≤ 9223372036854775807 ∧ ec ≤ 9223372036854775807 ∧
    w.cell? ⟨gb, i, none⟩ = some (.int .i64 (gg G i)) ∧ w.cell? ⟨eb, i * 3, none⟩ = some (.bool (sg S i).st) ∧ w.cell? ⟨eb, i * 3 + 1, none⟩ = some (.int .i64 (sg S i).tm) ∧ w.cell? ⟨eb, i * 3 + 2, none⟩ = some (.bool (sg S i).fi) ∧
    w.frozen? ⟨eb, i * 3, none⟩ = false ∧ w.frozen? ⟨eb, i * 3 + 1, none⟩ = false ∧ w.frozen? ⟨eb, i * 3 + 2, none⟩ = false := by
  obtain ⟨ga, gc, ec, c0, c1, f1, e0, h1, h2, h3, h4⟩ := h.cells
  obtain rfl := e0 (by omega)
  obtain ⟨q0, q1, q2, g0, g1, g2⟩ := h.row.cells hi
  exact ⟨gc, ec, c0, c1, h1, h2, h3, h4, (h.gs (by omega)).cell hi, q0, q1, q2, g0, g1, g2⟩
end

theorem there_any {C t gb eb n : Nat} {w : World} {G : List Int} {S : List La} (h : Rt C w t gb eb n G S) (i : Int) :
    Calls Try.prog 24 #[.pointer (some ⟨t, 0, none⟩), .int .i64 i] w fun e w' => e = .returned (.bool (decide (0 ≤ i) && decide (i < (n : Int)))) ∧ w = w' := by
  obtain ⟨ga, gc, ec, c0, c1, f1, e0, h1, h2, h3, h4⟩ := h.cells
  clear h e0
  cases hi : decide (0 ≤ i) with
  | false =>
    have hi' := Lib.hid hi
    go_enter Try.func24, Try.ntmps24
    go_wp2_with fail
    go_ret
    exact ⟨rfl, rfl⟩
  | true =>
    go_enter Try.func24, Try.ntmps24
    go_wp2_with fail
    go_ret
    exact ⟨rfl, rfl⟩

theorem rat_any {C t gb eb n : Nat} {w : World} {G : List Int} {S : List La} (h : Rt C w t gb eb n G S) (i : Int) :
    Calls Try.prog 17 #[.pointer (some ⟨t, 0, none⟩), .int .i64 i] w (AtP w (atS S i)) := by
  have HA := Lib.hid (h.below (alloc_b w (.cells #[.bool false, .int .i64 0, .bool false] 37 (0, 0))))
  by_cases hi : 0 ≤ i ∧ i < (n : Int)
  · obtain ⟨k, rfl⟩ := Int.eq_ofNat_of_zero_le hi.1
    have hb : (decide (0 ≤ (k : Int)) && decide ((k : Int) < (n : Int))) = true := by simp; omega
    have hk : k < n := by omega
    obtain ⟨gc, ec, c0, c1, h1, h2, h3, h4, q0, q1, q2, q3, g0, g1, g2⟩ := h.mem hk
    have hlt := h.lt
    have hlt2 := h.row.lt
    have hat : lv (sg S k) = .agg #[.bool (sg S k).st, .int .i64 (sg S k).tm, .bool (sg S k).fi] := rfl
    rw [atS_nat]
    have HL := Lib.hid hat
    have HB := Lib.hid hb
    have hfin : ∀ w', Below w.heap.size w w' → AtP w (sg S k) (.returned (.agg #[.bool (sg S k).st, .int .i64 (sg S k).tm, .bool (sg S k).fi])) w' := fun w' q => ⟨rfl, q⟩
    have FIN := Lib.hid hfin
    clear h hi hb hat hfin
    generalize (sg S k).st = s at *
    generalize (sg S k).tm = x at *
    generalize (sg S k).fi = f at *
    go_enter Try.func17, Try.ntmps17
    go_wp2_with fail
    refine (there_any HA.out (k : Int)).mono ?_
    rintro e w1 ⟨rfl, rfl⟩
    rw [HB.out]
    go_wp2_with fail
    exact bodyPost_ret (v := .agg #[.bool s, .int .i64 x, .bool f]) (by simp [results, Try.results17, go_sem]) rfl (FIN.out _ (alloc_b _ _))
  · have hz : atS S i = La.z := by
      unfold atS; split
      · exact sg_out _ _ (by rw [h.ok.ln, h.ln]; omega)
      · rfl
    have hb : (decide (0 ≤ i) && decide (i < (n : Int))) = false := by simp; omega
    have HB := Lib.hid hb
    have HZ := Lib.hid hz
    clear h hz hb hi
    go_enter Try.func17, Try.ntmps17
    go_wp2_with fail
    refine (there_any HA.out i).mono ?_
    rintro e w1 ⟨rfl, rfl⟩
    rw [HB.out]
    go_wp2_with fail
    exact bodyPost_ret (v := lv La.z) (by simp [results, Try.results17, go_sem]; rfl) rfl ⟨by rw [HZ.out], alloc_b _ _⟩

set_option maxRecDepth 100000 in
set_option maxHeartbeats 2000000 in
theorem rfirst_any {C t gb eb n : Nat} {w : World} {G : List Int} {S : List La} (h : Rt C w t gb eb n G S) (g : Int) :
    Calls Try.prog 22 #[.pointer (some ⟨t, 0, none⟩), .int .i64 g] w fun e w' => e = .returned (fiV G S g) ∧ w = w' := by
  obtain ⟨ga, gc, ec, c0, c1, f1, e0, h1, h2, h3, h4⟩ := h.cells
  have hle := h.le
  unfold maxLen at hle
  have H := Lib.hid h
  have E0 := Lib.hid e0
  clear h e0
  go_enter Try.func22, Try.ntmps22
  go_wp2_with fail
  go_loop [6] (fun i => ∃ k : Nat, k ≤ n ∧ i = .int .i64 k ∧ fok G S k g = none) (fun i => n - (intOf i).toNat)
  case atStart => exact ⟨0, Nat.zero_le _, rfl, rfl⟩
  case round =>
    obtain ⟨k, hk, rfl, hn⟩ := hrel
    by_cases hkn : k < n
    · obtain ⟨gc', ec', c0', c1', k1, k2, k3, k4, q0, q1, q2, q3, _, _, _⟩ := H.out.mem hkn
      clear c0 c1
      have hsu := fok_succ G S k g
      rw [hn, Option.none_or] at hsu
      have hyes : (sg S k).fi = true → gg G k = g → fiV G S g = .tuple #[.int .i64 (k : Int), .bool true] := fun a b => fiV_some ((fok_iff H.out.ok.ok g k).2 ⟨by rw [H.out.ln]; exact hkn, a, b⟩)
      have SU := Lib.hid hsu
      have YES := Lib.hid hyes
      clear hsu hyes hn
      generalize (sg S k).st = s at *
      generalize (sg S k).tm = x at *
      generalize (sg S k).fi = f at *
      generalize gg G k = gk at *
      have hkw : k ≤ 9223372036854775806 := by omega
      cases hf : f with
      | false =>
        subst hf
        have NN := Lib.hid (SU.out.trans (if_neg (fun q => by cases q.1)))
        go_wp2_with fail
        go_round
        case rel => exact ⟨k + 1, by omega, by go_num, NN.out⟩
        case measure => simp [intOf]; omega
      | true =>
        subst hf
        cases hg : (gk == g) with
        | true =>
          have HP := Lib.hid (YES.out rfl (by simpa using hg))
          go_wp2_with fail
          go_ret2
          exact ⟨by rw [HP.out]; rfl, rfl⟩
        | false =>
          have NN := Lib.hid (SU.out.trans (if_neg (fun q => by simp [q.2] at hg)))
          go_wp2_with fail
          go_round
          case rel => exact ⟨k + 1, by omega, by go_num, NN.out⟩
          case measure => simp [intOf]; omega
    · have hk' : k = n := by omega
      subst hk'
      have HP := Lib.hid (fiV_none (show fo G S g = none by unfold fo; rw [H.out.ln]; exact hn))
      clear hn
      go_wp2_with fail
      go_ret2
      exact ⟨by rw [HP.out]; rfl, rfl⟩

set_option maxRecDepth 100000 in
set_option maxHeartbeats 2000000 in
theorem same_any (a b : Option Addr) (n ca cb : Nat) (S : List La) (w : World) (ha : Lr w a n S) (hb : Lr w b n S) (hca : n ≤ ca) (hcb : n ≤ cb) :
    Calls Try.prog 18 #[.slice a n ca, .slice b n cb] w fun e w' => e = .returned (.bool true) ∧ Below w.heap.size w w' := by
  have hle := ha.le
  unfold maxLen at hle
  have HA := Lib.hid ha
  have HB := Lib.hid hb
  clear ha hb
  go_enter Try.func18, Try.ntmps18
  go_wp2_with fail
  go_loopw [5] (fun i wr => ∃ k : Nat, k ≤ n ∧ i = .int .i64 k ∧ Below w.heap.size w wr) (fun i _ => n - (intOf i).toNat)
  case atStart => exact ⟨0, Nat.zero_le _, rfl, Below.refl _ _⟩
  case round =>
    obtain ⟨wo, rfl⟩ : ∃ wo : World, wo = wr := ⟨_, rfl⟩
    obtain ⟨k, hk, rfl, hbe⟩ := hrel
    by_cases hkn : k < n
    · obtain ⟨b1, o1, e1, l1, r1⟩ := (HA.out.below hbe).pos (by omega)
      obtain ⟨b2, o2, e2, l2, r2⟩ := (HB.out.below hbe).pos (by omega)
      obtain ⟨x0, x1, x2⟩ := r1 k hkn
      obtain ⟨y0, y1, y2⟩ := r2 k hkn
      subst e1
      subst e2
      have BE := Lib.hid hbe
      clear r1 r2 hbe
      have i1 : (0 : Int) ≤ (k : Int) := by omega
      have i2 : (k : Int) < (n : Int) := by omega
      generalize (sg S k).st = s at *
      generalize (sg S k).tm = x at *
      generalize (sg S k).fi = f at *
      go_wp2_with fail
      go_quiet (fail)
      go_wp2_with fail
      go_roundw
      case rel => exact ⟨k + 1, by omega, by go_num, below_drewN BE.out _⟩
      case measure => simp [intOf]; omega
    · have hk' : k = n := by omega
      subst hk'
      have BE := Lib.hid hbe
      clear hbe
      go_wp2_with fail
      go_ret
      exact ⟨rfl, BE.out⟩

set_option maxRecDepth 100000 in
set_option maxHeartbeats 2000000 in
theorem rall_any {C t gb eb n : Nat} {w : World} {G : List Int} {S : List La} (h : Rt C w t gb eb n G S) (hn : n ≤ 2000000) :
    Calls Try.prog 20 #[.pointer (some ⟨t, 0, none⟩)] w fun e w' => ∃ g c, e = .returned (.slice (some ⟨g, 0, none⟩) n c) ∧ n ≤ c ∧ Lr w' (some ⟨g, 0, none⟩) n S ∧ Below w.heap.size w w' := by
  obtain ⟨ga, gc, ec, c0, c1, f1, e0, h1, h2, h3, h4⟩ := h.cells
  have hlt := h.lt
  have R := Lib.hid (h.row.lr (by rw [h.ok.ln, h.ln]) h.le h.wt)
  have H := Lib.hid h
  clear h e0
  go_enter Try.func20, Try.ntmps20
  go_wp2_with (at_builtin; refine append_lr rfl (.tmp 3) (.tmp 7) rfl w.heap.size _ ?hB (.slice (some ⟨w.heap.size, 0, none⟩) 0 0) rfl ?own (by simp) (some ⟨eb, 0, none⟩) n ec S rfl ?hby (by simp) hn ?_)
  case hB => simp
  case own => exact ⟨rfl, .inr ⟨w.heap.size, 0, #[], rfl, Nat.le_refl _, heap_alloc_new w _, Nat.le_refl _, Nat.zero_le _, rfl, rfl⟩⟩
  case hby => exact R.out.below (alloc_b w _)
  intro g c w2 g1 g2 g3 g4 hg
  have b2 : Below w.heap.size w w2 := (alloc_b w _).grown hg (by simp) (fun k hk => by simp [Value.ownBlock] at hk; omega)
  have L2 := g4.lr R.out.ln R.out.le R.out.wt
  have hp : (fun e w' => ∃ g c, e = Ending.returned (.slice (some ⟨g, 0, none⟩) n c) ∧ n ≤ c ∧ Lr w' (some ⟨g, 0, none⟩) n S ∧ Below w.heap.size w w') (.returned (.slice (some ⟨g, 0, none⟩) n c)) w2 := ⟨g, c, rfl, g2, L2, b2⟩
  have HP := Lib.hid hp
  clear g1 g3 g4 hg b2 L2 hp
  go_wp2_with fail
  go_ret
  exact HP.out
end Go.Proofs.Yteakbijlcccnnaa
