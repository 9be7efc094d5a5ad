/- What pieces tells, of whatever bytes. -/
import Derived.Test.YtnihgpaandodjaaRf
namespace Go.Proofs.Ytnihgpaandodjaa
set_option linter.unusedVariables false
open Go.ChangeShapes Go.WideShapes Go.ChangeAt Go.RowKit Go.Shelf
attribute [local go_sem] Oper.semAt_some

/-- A frame, and where its bytes lie. -/
structure Fd where
  id : Nat
  u : Nat
  g : Nat
  P : List Nat
def Fd.ok (f : Fd) : Prop := f.id < 65536 ∧ f.u < 256 ∧ 1 ≤ f.P.length ∧ f.P.length ≤ 253 ∧ ∀ b ∈ f.P, b < 256
def fb (F : List Fd) : List Nat := F.flatMap fun f => putL f.id f.u f.P
theorem fb_app (F G : List Fd) : fb (F ++ G) = fb F ++ fb G := by simp [fb]
theorem fb_one (f : Fd) : fb [f] = putL f.id f.u f.P := by simp [fb]
/-- What the bytes of a frame say. -/
theorem frame_math {R : List Nat} (hb : ∀ b ∈ R, b < 256) {id u : Nat} {P : List Nat} (h : firstR R = .frame id u P) :
    R = putL id u P ++ R.drop (P.length + 7) ∧ P.length + 7 ≤ R.length ∧ id < 65536 ∧ u < 256 ∧ 1 ≤ P.length ∧ P.length ≤ 253 ∧ ∀ b ∈ P, b < 256 := by
  by_cases hm : mayF (fun i => R.getD i 0) R.length = true
  · rw [firstR_may hm] at h
    by_cases hs : R.length < 6 ∨ R.length < 6 + folF (fun i => R.getD i 0)
    · rw [if_pos hs] at h; cases h
    · rw [if_neg hs] at h
      have hff : folF (fun i => R.getD i 0) = 256 * R.getD 4 0 + R.getD 5 0 := rfl
      have hfol := may_fol hm (by omega)
      rw [hff] at hs h
      have l0 := getD_lt hb 0
      have l1 := getD_lt hb 1
      have l6 := getD_lt hb 6
      have l4 := getD_lt hb 4
      have l5 := getD_lt hb 5
      injection h with h1 h2 h3
      have hP : P.length = 256 * R.getD 4 0 + R.getD 5 0 - 1 := by rw [← h3, List.length_take, List.length_drop]; omega
      have hP7 : (R.drop 7).take P.length = P := by rw [hP]; exact h3
      rw [mayF_iff] at hm
      have e2 : R.getD 2 0 = 0 := by have := hm.1; omega
      have e3 : R.getD 3 0 = 0 := by have := hm.2.1; omega
      have hhead : ∃ T, R = R.getD 0 0 :: R.getD 1 0 :: R.getD 2 0 :: R.getD 3 0 :: R.getD 4 0 :: R.getD 5 0 :: R.getD 6 0 :: T := by
        match R, (by omega : 7 ≤ R.length) with
        | a :: b :: c :: d :: e :: f :: g :: T, _ => exact ⟨T, rfl⟩
      refine ⟨?_, by omega, by omega, by omega, by omega, by omega, fun b hbP => hb b ?_⟩
      · obtain ⟨T, hT⟩ := hhead
        have hd7 : R.drop 7 = T := by rw [hT]; rfl
        have hdp : R.drop (P.length + 7) = T.drop P.length := by rw [← hd7, List.drop_drop]; congr 1; omega
        rw [hd7] at hP7
        rw [hdp]
        unfold putL
        have x0 : id / 256 = R.getD 0 0 := by omega
        have x1 : id % 256 = R.getD 1 0 := by omega
        have x4 : (P.length + 1) / 256 = R.getD 4 0 := by omega
        have x5 : (P.length + 1) % 256 = R.getD 5 0 := by omega
        rw [x0, x1, x4, x5, ← h2, List.append_assoc]
        conv => lhs; rw [hT, e2, e3]
        simp only [List.cons_append, List.nil_append]
        congr 7
        conv => lhs; rw [← List.take_append_drop P.length T]
        rw [hP7]
      · rw [← hP7] at hbP
        exact List.mem_of_mem_drop (List.mem_of_mem_take hbP)
  · rw [firstR_not hm] at h; cases h

theorem Bys.hop {W W' : World} {b off n : Nat} {L : List Nat} (h : Bys W (some ⟨b, off, none⟩) n L) (hb : W'.heap[b]? = W.heap[b]?) (hs : W.heap.size ≤ W'.heap.size) : Bys W' (some ⟨b, off, none⟩) n L := by
  refine ⟨h.ln, h.le, h.by', ?_⟩
  rcases h.at' with z | ⟨b', off', e, hlt, hc⟩
  · exact .inl z
  · simp only [Option.some.injEq, Addr.mk.injEq, and_true] at e
    obtain ⟨rfl, rfl⟩ := e
    exact .inr ⟨b, off, rfl, by omega, fun i hi => (World.cell?_of_block (a := ⟨b, off + i, none⟩) hb).trans (hc i hi)⟩
def pcV : Option Fd → Value
  | some f => .agg #[.int .u16 (f.id : Int), .int .u8 (f.u : Int), .slice (some ⟨f.g, 0, none⟩) f.P.length f.P.length, .int .i64 ((f.P.length : Int) + 7), .int .i64 0]
  | none => .agg #[.int .u16 0, .int .u8 0, .slice none 0 0, .int .i64 0, .int .i64 31]
/-- What a round is told. -/
def Hpc (L : List Nat) (n₀ : Nat) (pre : List (Option Fd)) (x : Option Fd) (W : World) : Prop :=
  ∃ F R, pre = F.map some ∧ L = fb F ++ R ∧ (∀ f ∈ F, f.ok) ∧ (match x with
    | none => firstR R = .bad
    | some f => f.ok ∧ firstR R = .frame f.id f.u f.P ∧ R = putL f.id f.u f.P ++ R.drop (f.P.length + 7) ∧ n₀ ≤ f.g ∧ W.heap[f.g]? = some (.cells (bv f.P).toArray 5 (0, 0)))
def Spc (L : List Nat) (xs : List (Option Fd)) : Prop := (∃ F R, xs = F.map some ∧ L = fb F ++ R ∧ (∀ f ∈ F, f.ok) ∧ firstR R = .more) ∨ ∃ ys, xs = ys ++ [none]
def slLen : Value → Nat
  | .slice _ n _ => n
  | _ => 0
theorem alB (w : World) (o : Obj) : Below w.heap.size w (w.alloc o) := (Below.refl _ _).alloc (Nat.le_refl _) _
set_option maxRecDepth 100000 in
set_option maxHeartbeats 4000000 in
theorem pieces_sq (n c n₀ : Nat) (hn : 1 ≤ n) (a : Option Addr) (len cap : Nat) (L : List Nat) (w : World) (hc : w.cell? ⟨c, 0, none⟩ = some (.slice a len cap)) (hcl : c < w.heap.size)
    (h : Bys w a len L) (hlow : ∀ b off, a = some ⟨b, off, none⟩ → 0 < len → b < n₀) (hn₀ : n₀ ≤ w.heap.size) (hcap : len ≤ cap) (hcm : cap ≤ maxLen) :
    Sq n Try.prog 22 #[.pointer (some ⟨c, 0, none⟩)] (fun x => #[pcV x]) (Below n₀) (Hpc L n₀) (Spc L) (fun _ => True) w := by
  intro l J Jx W hW hJ hJx hY h0
  have hc' := (hW.cell (p := ⟨c, 0, none⟩) hcl).trans hc
  have hB := h.below hW
  have Y := Lib.hid hY
  have JJ := Lib.hid hJ
  have J0 := Lib.hid h0
  have B0 := Lib.hid hB
  have LW := Lib.hid hlow
  have hsz := hW.size
  clear hY hJ hJx h0 h hB hc hW
  refine callsIn_of_wp Try.func22 rfl trivial ?_ rfl
  simp only [Try.ntmps22, List.size_toArray, List.length_cons, List.length_nil, Nat.reduceAdd, Nat.reduceSub, Array.replicate_succ, Array.replicate_zero, List.push_toArray, List.append_toArray, List.nil_append, List.cons_append]
  gi_wp2
  gi_loopw [3] (fun v wr => ∃ (F : List Fd) (R : List Nat) (s : Option Addr) (cp : Nat), v = .slice s R.length cp ∧ L = fb F ++ R ∧ (∀ f ∈ F, f.ok) ∧ Bys wr s R.length R ∧ R.length ≤ cp ∧ cp ≤ maxLen ∧ (∀ b off, s = some ⟨b, off, none⟩ → 0 < R.length → b < n₀) ∧ J (F.map some) wr ∧ W.heap.size ≤ wr.heap.size) (fun v _ => slLen v)
  case atStart => exact ⟨[], L, a, cap, by rw [B0.out.ln], rfl, (fun f hf => by cases hf), by rw [B0.out.ln]; exact B0.out, by rw [B0.out.ln]; exact hcap, hcm, (fun b off e h0 => LW.out b off e (by rw [B0.out.ln] at h0; exact h0)), J0.out, Nat.le_refl _⟩
  case round =>
    obtain ⟨F, R, s, cp, rfl, hL, hF, hR, hcp, hcpm, hlw, hJ, hwr⟩ := hrel
    obtain ⟨wo, rfl⟩ : ∃ wo : World, wo = wr := ⟨_, rfl⟩
    have hRb := hR.by'
    obtain ⟨m, hm⟩ : ∃ m, m = R.length := ⟨_, rfl⟩
    rw [← hm] at hR hcp hlw
    have FA := Lib.hid (first_any s m cp R wo hR hcp hcpm)
    have HL := Lib.hid hL
    have HF := Lib.hid hF
    have HR := Lib.hid hR
    have LW2 := Lib.hid hlw
    have JO := Lib.hid hJ
    have HM := Lib.hid hm
    have RB := Lib.hid hRb
    unfold maxLen at hcpm
    rw [← hm]
    clear hL hF hR hlw hJ hm hRb
    gi_wp2
    refine ⟨trivial, ?_⟩
    gi_at_call 11
    refine (callsIn_wide.2 FA.out).mono ?_
    rintro e w1 ⟨b1, he⟩
    have hJ1 : J (F.map some) w1 := JJ.out _ _ _ JO.out b1
    have s1 := b1.size
    cases hfr : firstR R with
    | bad =>
      rw [hfr] at he
      subst he
      have hJ2 := JJ.out _ _ _ hJ1 (alB w1 (.cells #[.int .u16 0, .int .u8 0, .slice none 0 0] 25 (0, 0)))
      obtain ⟨fn, tmps, assign, body, hy, hRd⟩ := Y.out (F.map some) none _ hJ2 ⟨F, R, rfl, HL.out, HF.out, hfr⟩
      have RD := Lib.hid hRd
      dsimp only [pcV] at hy
      clear hfr hJ1 hJ2 b1 hRd
      gi_wp2
      refine RD.out.mono ?_
      rintro e W3 (⟨rfl, hJ3, hk3⟩ | ⟨rfl, hJx3⟩)
      · have HP := Lib.hid hJ3
        clear hJ3 hk3
        gi_wp2
        refine bodyPost_ret (results_none rfl _ _ _) rfl ⟨⟨_, rfl⟩, .inl ⟨_, .inr ⟨_, rfl⟩, HP.out⟩⟩
      · have HP := Lib.hid hJx3
        clear hJx3
        gi_wp2
        refine bodyPost_ret (results_none rfl _ _ _) rfl ⟨⟨_, rfl⟩, .inr ⟨_, trivial, HP.out⟩⟩
    | more =>
      rw [hfr] at he
      subst he
      have hfin : Spc L (F.map some) := .inl ⟨F, R, rfl, HL.out, HF.out, hfr⟩
      have hJ2 := JJ.out _ _ _ hJ1 (alB w1 (.cells #[.int .u16 0, .int .u8 0, .slice none 0 0] 25 (0, 0)))
      have HP := Lib.hid (And.intro hfin hJ2)
      clear hfr hJ1 b1 hfin hJ2
      gi_wp2
      refine bodyPost_ret (results_none rfl _ _ _) rfl ⟨⟨_, rfl⟩, .inl ⟨_, HP.out.1, HP.out.2⟩⟩
    | frame id u P =>
      rw [hfr] at he
      obtain ⟨g, rfl, hg, hcell⟩ := he
      obtain ⟨m1, m2, m3, m4, m5, m6, m7⟩ := frame_math RB.out hfr
      have hok : (⟨id, u, g, P⟩ : Fd).ok := ⟨m3, m4, m5, m6, m7⟩
      have hJ2 := JJ.out _ _ _ hJ1 (alB w1 (.cells #[.int .u16 (id : Int), .int .u8 (u : Int), .slice (some ⟨g, 0, none⟩) P.length P.length] 25 (0, 0)))
      obtain ⟨fn, tmps, assign, body, hy, hRd⟩ := Y.out (F.map some) (some ⟨id, u, g, P⟩) _ hJ2 ⟨F, R, rfl, HL.out, HF.out, hok, hfr, m1, (show n₀ ≤ g by omega), ((alB w1 _).block g (blk_lt hcell)).trans hcell⟩
      rw [← HM.out] at m2
      obtain ⟨b, off, hs, hbl, _⟩ := HR.out.pos (by omega)
      have hbn := LW2.out b off hs (by omega)
      subst hs
      have RD := Lib.hid hRd
      have M1 := Lib.hid m1
      have OK := Lib.hid hok
      have hwo : Below wo.heap.size wo (w1.alloc (.cells #[.int .u16 (id : Int), .int .u8 (u : Int), .slice (some ⟨g, 0, none⟩) P.length P.length] 25 (0, 0))) := b1.alloc s1 _
      have WO := Lib.hid hwo
      dsimp only [pcV] at hy
      clear hfr hJ1 hJ2 b1 hRd m1 m3 m4 m7 hok hwo hcell
      gi_wp2
      refine RD.out.mono ?_
      rintro e W3 (⟨rfl, hJ3, hk3⟩ | ⟨rfl, hJx3⟩)
      · have J3 := Lib.hid hJ3
        have K3 := Lib.hid hk3
        clear hJ3 hk3
        have hl3 : W3.heap[b]? = wo.heap[b]? := (K3.out.block b hbn).trans (WO.out.block b hbl)
        have hsz3 : wo.heap.size ≤ W3.heap.size := Nat.le_trans WO.out.size K3.out.size
        have hRl : (R.drop (P.length + 7)).length = m - (P.length + 7) := by rw [List.length_drop, HM.out]
        have hLn : L = fb (F ++ [⟨id, u, g, P⟩]) ++ R.drop (P.length + 7) := by
          rw [fb_app, fb_one, List.append_assoc]
          show L = fb F ++ (putL id u P ++ R.drop (P.length + 7))
          rw [← M1.out]; exact HL.out
        have hFn : ∀ f ∈ F ++ [(⟨id, u, g, P⟩ : Fd)], f.ok := by
          intro f hf
          rcases List.mem_append.1 hf with q | q
          · exact HF.out f q
          · simp at q; subst q; exact OK.out
        have hbs : Bys W3 (some ⟨b, off + (P.length + 7), none⟩) (R.drop (P.length + 7)).length (R.drop (P.length + 7)) := by
          have := HR.out.sub (P.length + 7) (m - (P.length + 7)) (by omega)
          rw [List.take_of_length_le (by omega)] at this
          rw [hRl]
          exact this.hop hl3 hsz3
        have hJf : J ((F ++ [(⟨id, u, g, P⟩ : Fd)]).map some) W3 := by rw [List.map_append]; exact J3.out
        have HRL := Lib.hid hRl
        have HLN := Lib.hid hLn
        have HFN := Lib.hid hFn
        have HBS := Lib.hid hbs
        have HJF := Lib.hid hJf
        clear hl3 hRl hLn hFn hbs hJf J3 K3
        by_cases hce : cp = P.length + 7
        · have hm7 : m = P.length + 7 := by omega
          subst hce
          have HM7 := Lib.hid hm7
          gi_wp2
          refine ⟨⟨F ++ [⟨id, u, g, P⟩], R.drop (P.length + 7), some ⟨b, off, none⟩, 0, ?_, HLN.out, HFN.out, ?_, ?_, Nat.zero_le _, ?_, HJF.out, by omega⟩, ?_⟩
          · rw [HRL.out, HM7.out]; simp
          · have : (R.drop (P.length + 7)).length = 0 := by rw [HRL.out, HM7.out]; simp
            have h0 : R.drop (P.length + 7) = [] := List.eq_nil_of_length_eq_zero this
            rw [h0]
            exact Bys.nil _ _
          · rw [HRL.out, HM7.out]; simp
          · intro b2 off2 e h0; rw [HRL.out, HM7.out] at h0; simp at h0
          · simp only [slLen]; omega
        · have HCE := Lib.hid hce
          clear hce
          have hne : ¬ cp = P.length + 7 := HCE.out
          gi_wp2
          refine ⟨⟨F ++ [⟨id, u, g, P⟩], R.drop (P.length + 7), some ⟨b, off + (P.length + 7), none⟩, cp - (P.length + 7), by rw [HRL.out], HLN.out, HFN.out, HBS.out, by rw [HRL.out]; omega, by unfold maxLen; omega, ?_, HJF.out, by omega⟩, ?_⟩
          · intro b2 off2 e _
            simp only [Option.some.injEq, Addr.mk.injEq, and_true] at e
            omega
          · simp only [slLen]; omega
      · have HP := Lib.hid hJx3
        clear hJx3
        gi_wp2
        refine bodyPost_ret (results_none rfl _ _ _) rfl ⟨⟨_, rfl⟩, .inr ⟨_, trivial, HP.out⟩⟩
end Go.Proofs.Ytnihgpaandodjaa
