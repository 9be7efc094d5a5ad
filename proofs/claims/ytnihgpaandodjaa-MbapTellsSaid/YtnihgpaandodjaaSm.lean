/- Rows of frames; Same, SameAll. -/
import Derived.Test.YtnihgpaandodjaaCt
import Derived.Deep.DrawnRows
import Derived.Deep.RegionHeld3
namespace Go.Proofs.Ytnihgpaandodjaa
set_option linter.unusedVariables false
open Go.ChangeShapes Go.WideShapes Go.ChangeAt Go.RowKit

/-- A frame as it lies: its bytes are P. -/
structure Ad where
  id : Nat
  u : Nat
  s : Option Addr
  n : Nat
  c : Nat
  P : List Nat
instance : Inhabited Ad := ⟨⟨0, 0, none, 0, 0, []⟩⟩
def adv (x : Ad) : List Value := [.int .u16 (x.id : Int), .int .u8 (x.u : Int), .slice x.s x.n x.c]
def dt (x : Ad) : Nat × Nat × List Nat := (x.id, x.u, x.P)
def Ad.ok (x : Ad) (w : World) : Prop := x.id < 65536 ∧ x.u < 256 ∧ Bys w x.s x.n x.P ∧ x.n ≤ x.c ∧ x.c ≤ maxLen
theorem Ad.ok.below {x : Ad} {W w : World} (h : x.ok W) (hb : Below W.heap.size W w) : x.ok w := ⟨h.1, h.2.1, h.2.2.1.below hb, h.2.2.2⟩
structure Ads (w : World) (a : Option Addr) (n : Nat) (A : List Ad) : Prop where
  ln : A.length = n
  le : n ≤ maxLen
  ok : ∀ i, i < n → (A.getD i default).ok w
  at' : n = 0 ∨ ∃ b off, a = some ⟨b, off, none⟩ ∧ b < w.heap.size ∧ ∀ i, i < n → ∀ j, j < 3 → w.cell? ⟨b, off + i * 3 + j, none⟩ = (adv (A.getD i default))[j]?
theorem Ads.pos {w : World} {a : Option Addr} {n : Nat} {A : List Ad} (h : Ads w a n A) (hp : 0 < n) : ∃ b off, a = some ⟨b, off, none⟩ ∧ b < w.heap.size ∧ ∀ i, i < n → w.cell? ⟨b, off + i * 3, none⟩ = some (.int .u16 ((A.getD i default).id : Int)) ∧ w.cell? ⟨b, off + i * 3 + 1, none⟩ = some (.int .u8 ((A.getD i default).u : Int)) ∧ w.cell? ⟨b, off + i * 3 + 2, none⟩ = some (.slice (A.getD i default).s (A.getD i default).n (A.getD i default).c) := by
  rcases h.at' with z | ⟨b, off, e, hb, hc⟩
  · omega
  · exact ⟨b, off, e, hb, fun i hi => ⟨hc i hi 0 (by omega), hc i hi 1 (by omega), hc i hi 2 (by omega)⟩⟩
theorem Ads.below {W w : World} {a : Option Addr} {n : Nat} {A : List Ad} (h : Ads W a n A) (hb : Below W.heap.size W w) : Ads w a n A := by
  refine ⟨h.ln, h.le, fun i hi => (h.ok i hi).below hb, ?_⟩
  rcases h.at' with z | ⟨b, off, e, hlt, hc⟩
  · exact .inl z
  · exact .inr ⟨b, off, e, Nat.lt_of_lt_of_le hlt hb.size, fun i hi j hj => (hb.cell (p := ⟨b, off + i * 3 + j, none⟩) hlt).trans (hc i hi j hj)⟩
def Fd.ad (f : Fd) : Ad := ⟨f.id, f.u, some ⟨f.g, 0, none⟩, f.P.length, f.P.length, f.P⟩
theorem acl_at (F : List Fd) (i j : Nat) (hi : i < F.length) (hj : j < 3) : (acl F)[i * 3 + j]? = (adv ((F.map Fd.ad).getD i default))[j]? := by
  induction F generalizing i with
  | nil => simp at hi
  | cons f F ih =>
    show (fcl f ++ acl F)[i * 3 + j]? = _
    cases i with
    | zero =>
      rw [List.getElem?_append_left (by simp [fcl]; omega)]
      simp [fcl, adv, Fd.ad]
    | succ i =>
      rw [List.getElem?_append_right (by simp [fcl]; omega)]
      have := ih i (by simpa using hi)
      simp only [List.map_cons, List.getD_cons_succ]
      rw [← this]
      congr 1
      simp [fcl]; omega
theorem lie_bys {s : Nat} {F : List Fd} {W : World} (h : Lie s F W) {f : Fd} (hf : f ∈ F) : f.ad.ok W := by
  obtain ⟨h1, h2, h3⟩ := h f hf
  obtain ⟨q1, q2, q3, q4, q5⟩ := h1
  exact ⟨q1, q2, bys_block f.P (by unfold maxLen; omega) q5 h3, Nat.le_refl _, by show f.P.length ≤ maxLen; unfold maxLen; omega⟩
theorem own_ads {B s : Nat} {w : World} {v : Value} {F : List Fd} (h : w.ownsRow B 25 3 v F.length (acl F)) (hl : Lie s F w) : ∃ a c, v = .slice a F.length c ∧ Ads w a F.length (F.map Fd.ad) ∧ F.length ≤ c ∧ c ≤ maxLen ∧ (∀ b off, a = some ⟨b, off, none⟩ → B ≤ b) := by
  have hok : ∀ i, i < F.length → ((F.map Fd.ad).getD i default).ok w := by
    intro i hi
    have : (F.map Fd.ad).getD i default = F[i].ad := by simp [List.getD, List.getElem?_eq_getElem hi]
    rw [this]
    exact lie_bys hl (List.getElem_mem hi)
  obtain ⟨hln, ⟨hv, h0⟩ | ⟨g, cap, cur, hv, hg, hb, hl', hm, hs, ht⟩⟩ := h
  · rw [h0] at hok ⊢
    refine ⟨none, 0, hv, ⟨by simp [h0], Nat.zero_le _, hok, .inl rfl⟩, Nat.le_refl _, Nat.zero_le _, fun b off e => by cases e⟩
  · refine ⟨_, cap, hv, ⟨by simp, by omega, hok, .inr ⟨g, 0, rfl, blk_lt hb, fun i hi j hj => ?_⟩⟩, hl', hm, fun b off e => by simp only [Option.some.injEq, Addr.mk.injEq, and_true] at e; omega⟩
    have h1 : (cur.toList.take (F.length * 3))[i * 3 + j]? = (acl F)[i * 3 + j]? := by rw [ht]
    rw [List.getElem?_take_of_lt (by omega), acl_at F i j hi hj] at h1
    rw [← h1]
    simp [World.cell?, hb]

/-- What a world behind W still reads. -/
def Gd (W w' : World) : Prop := Below W.heap.size W w'
theorem Gd.step {W a b : World} (h : Gd W a) (hb : Below a.heap.size a b) : Gd W b := Below.trans h (hb.mono h.size)
theorem same_ad (x y : Ad) (w : World) (hx : x.ok w) (hy : y.ok w) (he : dt x = dt y) :
    Calls Try.prog 17 #[.agg #[.int .u16 (x.id : Int), .int .u8 (x.u : Int), .slice x.s x.n x.c], .agg #[.int .u16 (y.id : Int), .int .u8 (y.u : Int), .slice y.s y.n y.c]] w fun e w' => e = .returned (.bool true) ∧ Below w.heap.size w w' := by
  simp only [dt, Prod.mk.injEq] at he
  obtain ⟨e1, e2, e3⟩ := he
  have hb : Below w.heap.size w ((w.alloc (.cells #[.int .u16 (x.id : Int), .int .u8 (x.u : Int), .slice x.s x.n x.c] 25 (0, 0))).alloc (.cells #[.int .u16 (y.id : Int), .int .u8 (y.u : Int), .slice y.s y.n y.c] 25 (0, 0))) := (alB w _).alloc (by simp) _
  have c1 := conv_bys (hx.2.2.1.below hb) (cap := x.c)
  have c2 := conv_bys (hy.2.2.1.below hb) (cap := y.c)
  rw [← e3] at c2
  rw [← e1, ← e2] at hb c1 c2 ⊢
  have HB := Lib.hid hb
  clear hx hy e1 e2 e3 hb
  generalize strN x.P = st at *
  generalize x.id = i1 at *
  generalize x.u = i2 at *
  generalize x.s = xs at *
  generalize x.n = xn at *
  generalize x.c = xc at *
  generalize y.s = ys at *
  generalize y.n = yn at *
  generalize y.c = yc at *
  go_enter Try.func17, Try.ntmps17
  go_wp2_with fail
  go_ret
  exact ⟨rfl, HB.out⟩
set_option maxRecDepth 100000 in
set_option maxHeartbeats 4000000 in
theorem same_all (a b : Option Addr) (n ca cb : Nat) (A B : List Ad) (w : World) (ha : Ads w a n A) (hb : Ads w b n B) (he : A.map dt = B.map dt) :
    Calls Try.prog 18 #[.slice a n ca, .slice b n cb] w fun e w' => e = .returned (.bool true) ∧ Below w.heap.size w w' := by
  have hle := ha.le
  unfold maxLen at hle
  have he' : ∀ i, i < n → dt (A.getD i default) = dt (B.getD i default) := by
    intro i hi
    have h1 : i < A.length := by rw [ha.ln]; exact hi
    have h2 : i < B.length := by rw [hb.ln]; exact hi
    have := congrArg (fun l => l[i]?) he
    simpa [List.getD, List.getElem?_eq_getElem h1, List.getElem?_eq_getElem h2] using this
  have HA := Lib.hid ha
  have HB := Lib.hid hb
  have HE := Lib.hid he'
  clear ha hb he he'
  go_enter Try.func18, Try.ntmps18
  go_wp2_with fail
  go_loopw [5] (fun i wr => ∃ k : Nat, k ≤ n ∧ i = .int .i64 k ∧ Below w.heap.size w wr) (fun i _ => n - (intOf i).toNat)
  case atStart => exact ⟨0, Nat.zero_le _, rfl, Below.refl _ _⟩
  case round =>
    obtain ⟨wo, rfl⟩ : ∃ wo : World, wo = wr := ⟨_, rfl⟩
    obtain ⟨k, hk, rfl, hbe⟩ := hrel
    by_cases hkn : k < n
    · have hA := HA.out.below hbe
      have hB := HB.out.below hbe
      obtain ⟨b1, o1, e1, l1, r1⟩ := hA.pos (by omega)
      obtain ⟨b2, o2, e2, l2, r2⟩ := hB.pos (by omega)
      obtain ⟨x0, x1, x2⟩ := r1 k hkn
      obtain ⟨y0, y1, y2⟩ := r2 k hkn
      have hxo := hA.ok k hkn
      have hyo := hB.ok k hkn
      have hdt := HE.out k hkn
      subst e1
      subst e2
      generalize A.getD k default = x at *
      generalize B.getD k default = y at *
      have SD := Lib.hid (fun (w' : World) (q : Gd wo w') => same_ad x y w' (hxo.below q) (hyo.below q) hdt)
      have BE := Lib.hid hbe
      have i1 : (0 : Int) ≤ (k : Int) := by omega
      have i2 : (k : Int) < (n : Int) := by omega
      clear r1 r2 hbe hA hB hxo hyo hdt
      obtain ⟨i1', u1, s1, n1, c1, P1⟩ := x
      obtain ⟨i2', u2, s2, n2, c2, P2⟩ := y
      simp only at x0 x1 x2 y0 y1 y2
      have g0 : Gd wo wo.drew := (Below.refl _ _).drew
      have KS := Lib.hid (fun (w' : World) (q : Gd wo w') => show w'.cell? ⟨b1, o1 + k * 3, none⟩ = some (.int .u16 (i1' : Int)) ∧ w'.cell? ⟨b1, o1 + k * 3 + 1, none⟩ = some (.int .u8 (u1 : Int)) ∧ w'.cell? ⟨b1, o1 + k * 3 + 2, none⟩ = some (.slice s1 n1 c1) ∧ w'.cell? ⟨b2, o2 + k * 3, none⟩ = some (.int .u16 (i2' : Int)) ∧ w'.cell? ⟨b2, o2 + k * 3 + 1, none⟩ = some (.int .u8 (u2 : Int)) ∧ w'.cell? ⟨b2, o2 + k * 3 + 2, none⟩ = some (.slice s2 n2 c2) from
        ⟨(q.cell (p := ⟨b1, _, none⟩) l1).trans x0, (q.cell (p := ⟨b1, _, none⟩) l1).trans x1, (q.cell (p := ⟨b1, _, none⟩) l1).trans x2, (q.cell (p := ⟨b2, _, none⟩) l2).trans y0, (q.cell (p := ⟨b2, _, none⟩) l2).trans y1, (q.cell (p := ⟨b2, _, none⟩) l2).trans y2⟩)
      go_wp2_with fail
      go_region_held3 (fun w' => w'.cell? ⟨b1, o1 + k * 3, none⟩ = some (.int .u16 (i1' : Int)) ∧ w'.cell? ⟨b1, o1 + k * 3 + 1, none⟩ = some (.int .u8 (u1 : Int)) ∧ w'.cell? ⟨b1, o1 + k * 3 + 2, none⟩ = some (.slice s1 n1 c1) ∧ w'.cell? ⟨b2, o2 + k * 3, none⟩ = some (.int .u16 (i2' : Int)) ∧ w'.cell? ⟨b2, o2 + k * 3 + 1, none⟩ = some (.int .u8 (u2 : Int)) ∧ w'.cell? ⟨b2, o2 + k * 3 + 2, none⟩ = some (.slice s2 n2 c2)) (first | exact KS.out _ (by assumption) | go_keep) (first
        | (go_at_call 17; refine (SD.out _ (by assumption)).mono ?_; rintro e w2 ⟨rfl, b17⟩; have g17 : Gd wo w2 := Gd.step (by assumption) b17)
        | fail)
      all_goals
        go_wp2_with fail
        go_roundw
        case rel => exact ⟨k + 1, by omega, by go_num, BE.out.trans (Below.mono g17 BE.out.size)⟩
        case measure => simp [intOf]; omega
    · have hk' : k = n := by omega
      subst hk'
      have BE := Lib.hid hbe
      clear hbe
      go_wp2_with fail
      go_ret
      exact ⟨rfl, BE.out⟩
end Go.Proofs.Ytnihgpaandodjaa
