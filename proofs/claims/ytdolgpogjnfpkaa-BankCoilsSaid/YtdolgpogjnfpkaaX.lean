/- Right, Put. -/
import Derived.Test.YtdolgpogjnfpkaaT
namespace Go.Proofs.Ytdolgpogjnfpkaa
set_option linter.unusedVariables false
set_option linter.unusedSimpArgs false
open Go.ChangeShapes Go.WideShapes Go.ChangeAt Go.RowKit

def okR (r : Rq) (code : Int) (V : List Nat) : Bool := rightR r && mayB r.q (rdF r) (biF r) code V
def W2q (w : World) (q p : Value) : World := w
theorem of2_any (r : Rq) (w : World) (hr : r.ok w) : Calls Try.prog 58 #[rv r] w (fun e w' => e = .returned (.tuple #[av r (rdF r) (biF r), .bool (rightR r)]) ∧ Below w.heap.size w w') := of_any r w hr
set_option maxRecDepth 100000 in
set_option maxHeartbeats 4000000 in
theorem putQ_any (r : Rq) (p : Rp) (w : World) (hr : r.ok w) (hp : p.ok w) : Calls Try.prog 30 #[rv r, rpv p] w (OutP w (if okR r p.code p.V = true then repN r p.code p.V else [])) := by
  obtain ⟨P, hP⟩ : ∃ P, P = (OutP w (if okR r p.code p.V = true then repN r p.code p.V else []) : Ending → World → Prop) := ⟨_, rfl⟩
  rw [← hP]
  have HP := Lib.hid hP
  have HEQ : Hid (okR r p.code p.V = (rightR r && mayB r.q (rdF r) (biF r) p.code p.V)) := Lib.hid rfl
  have OF := fun W (h : Below w.heap.size w W) => of2_any r W (hr.below h)
  have MA := fun W (h : Below w.heap.size w W) => may_any r (rdF r) (biF r) p W (hr.below h) (hp.below h)
  have PA := fun W (h : Below w.heap.size w W) (e1 : rightR r = true) (e2 : mayB r.q (rdF r) (biF r) p.code p.V = true) => putA_any r p W (hr.below h) (hp.below h) e1 e2
  generalize mayB r.q (rdF r) (biF r) p.code p.V = mb at MA HEQ PA
  generalize rightR r = ri at OF HEQ PA
  generalize rdF r = rd at OF MA PA
  generalize biF r = bi at OF MA PA
  generalize repN r p.code p.V = RL at PA HP
  generalize okR r p.code p.V = ok at HEQ HP
  clear hP hr hp
  obtain ⟨fc, ad, q, vs, vn, vc, V, rto⟩ := r
  obtain ⟨code, us, un, uc, U⟩ := p
  simp only [av, rv, rpv] at OF MA PA ⊢
  have k1 := alloc_bq w (.cells #[.int .i64 fc, .int .i64 ad, .int .i64 q, .slice vs vn vc, .int .i64 rto] 32 (0, 0))
  have k2 := alloc_bq (w.alloc (.cells #[.int .i64 fc, .int .i64 ad, .int .i64 q, .slice vs vn vc, .int .i64 rto] 32 (0, 0))) (.cells #[.int .i64 code, .slice us un uc] 40 (0, 0))
  have bw := k1.trans (k2.mono k1.size)
  have hy := heap_alloc_new (w.alloc (.cells #[.int .i64 fc, .int .i64 ad, .int .i64 q, .slice vs vn vc, .int .i64 rto] 32 (0, 0))) (.cells #[.int .i64 code, .slice us un uc] 40 (0, 0))
  rw [World.size_alloc] at hy
  have HY := Lib.hid hy
  have BW := Lib.hid bw
  have OF1 := Lib.hid (OF _ bw)
  have MAH := Lib.hid MA
  have PAH := Lib.hid PA
  clear k1 k2 bw hy OF MA PA
  go_enter Try.func30, Try.ntmps30
  go_wp2_with fail
  refine OF1.out.mono ?_
  rintro e w1 ⟨rfl, z1⟩
  have b1 := BW.out.trans (Below.mono z1 BW.out.size)
  have hy1 := low_of z1 HY.out
  have hlt := blk_lt hy1
  have m1 := (MAH.out (w1.alloc (.cells #[.int .i64 fc, .int .i64 ad, .int .i64 q, .slice vs vn vc, .int .i64 rto, .bool rd, .bool bi] 87 (0, 0))) (b1.alloc b1.size _))
  obtain ⟨y0, y1⟩ := cells2q (low_of (alloc_bq w1 (.cells #[.int .i64 fc, .int .i64 ad, .int .i64 q, .slice vs vn vc, .int .i64 rto, .bool rd, .bool bi] 87 (0, 0))) hy1)
  have M1 := Lib.hid m1
  have B1 := Lib.hid b1
  have FIN0 : Hid (∀ W', ok = false → Below w.heap.size w W' → P (.returned (.slice none 0 0)) W') := Lib.hid (fun W' h hb => by
    rw [HP.out, h]; exact ⟨_, rfl, ⟨rfl, .inl ⟨rfl, rfl⟩⟩, hb⟩)
  have X1 := Lib.hid (heap_alloc_new w1 (.cells #[.int .i64 fc, .int .i64 ad, .int .i64 q, .slice vs vn vc, .int .i64 rto, .bool rd, .bool bi] 87 (0, 0)))
  have Y1 := Lib.hid (low_of (alloc_bq w1 (.cells #[.int .i64 fc, .int .i64 ad, .int .i64 q, .slice vs vn vc, .int .i64 rto, .bool rd, .bool bi] 87 (0, 0))) hy1)
  have B2 := Lib.hid (b1.alloc (o := (.cells #[.int .i64 fc, .int .i64 ad, .int .i64 q, .slice vs vn vc, .int .i64 rto, .bool rd, .bool bi] 87 (0, 0))) b1.size)
  clear hy1 b1 z1 m1
  cases ri with
  | false =>
    go_wp2_with fail
    exact FIN0.out _ (by rw [HEQ.out]; rfl) B2.out
  | true =>
    go_wp2_with fail
    refine M1.out.mono ?_
    rintro e w5 ⟨rfl, z5⟩
    have b5 := B2.out.trans (Below.mono z5 B2.out.size)
    have x5 := low_of z5 X1.out
    have y5 := low_of z5 Y1.out
    obtain ⟨p0, p1, p2, p3, p4, p5, p6⟩ := cells7 x5
    obtain ⟨y0, y1⟩ := cells2q y5
    have pa := fun e2 => PAH.out w5 b5 (by trivial) e2
    have PA5 := Lib.hid pa
    have B5 := Lib.hid b5
    clear b5 z5 x5 y5 pa
    cases mb with
    | false =>
      go_wp2_with fail
      exact FIN0.out _ (by rw [HEQ.out]; rfl) B5.out
    | true =>
      go_wp2_with fail
      refine (PA5.out (by trivial)).mono ?_
      rintro e w6 ⟨v6, rfl, o6, z6⟩
      have O6 := Lib.hid (OwnV.mono o6 B5.out.size)
      have B6 := Lib.hid (B5.out.trans (Below.mono z6 B5.out.size))
      clear o6 z6
      go_wp2_with fail
      rw [HP.out, HEQ.out]
      exact ⟨v6, rfl, O6.out, B6.out⟩
end Go.Proofs.Ytdolgpogjnfpkaa
