/- Contracts of a queue's Put and Take: the machine's own steps at a select of one case with a default, in one goroutine. -/
import Derived.Test.YtbonifmhlbakbaaStructs
import Derived.Conc.LoneCalls
import Derived.Conc.LoneSelect
import Derived.Conc.LoneSelectN
import Derived.KernelRfl
import Derived.Laws.Rows
namespace Go.Proofs.Ytbonifmhlbakbaa
set_option linter.unusedVariables false
open Go.Conc Go.RowKit

set_option maxRecDepth 100000 in
theorem put_int_u_room (d cu co cap s r : Nat) (bu : Array Value) (x : Int) (w : World) (c0 : w.cell? ⟨d, 0, none⟩ = some (.chan (some cu))) (c1 : w.cell? ⟨d, 1, none⟩ = some (.chan (some co)))
    (hk : w.heap[cu]? = some (.chan cap bu false s r false)) (hr : bu.size < cap) :
    Calls Try.prog 15 #[.pointer (some ⟨d, 0, none⟩), .bool true, .int .i64 x] w fun e w' => e = .returned (.bool true) ∧ w' = w.setChan cu cap (bu.push (.int .i64 x)) false (s + 1) r false := by
  have HK := Lib.hid hk
  clear hk
  refine calls_of_loneTo fun cs => ?_
  have e : Frame.enter Try.prog 15 #[.pointer (some ⟨d, 0, none⟩), .bool true, .int .i64 x] .normal = (base 15).at ⟨#[.pointer (some ⟨d, 0, none⟩), .bool true, .int .i64 x, undef, undef, undef, undef, undef, undef, undef, undef, undef, undef, undef, undef, undef, undef, undef, undef, undef, undef, undef], []⟩ [.code (Try.f15.body.getD .skip)] := by
    simp [Frame.enter, Frame.at, Try.func15, base, Try.f15]
  rw [e]
  clear e
  refine LoneTo.goes (n := 60) ?_
  simp only [Try.f15, Option.getD_some]
  s_c stepG_seq
  s_reg
  s_op
  s_c stepG_region_end
  s_c stepG_seq
  s_reg
  s_op
  s_op
  s_op
  s_op
  s_op
  s_c stepG_region_end
  s_c stepG_seq
  s_c stepG_seq
  s_reg
  s_op
  s_c stepG_region_end
  s_cond true
  s_reg
  s_op
  s_op
  s_op
  s_op
  s_op
  s_c stepG_region_end
  s_c stepG_seq
  s_c stepG_seq
  s_reg
  s_op
  s_c stepG_region_end
  s_reg
  s_op
  s_c stepG_region_end
  s_c stepG_seq
  s_reg
  s_stop
  refine LoneTo.step (step_lone_select_send_room (c := cu) (v := (.int .i64 x)) (z' := .int .i64 0) (cap := cap) (buf := bu) (s := s) (r := r) (tm := false)
    (stepG_comm (cases := #[scase cu (.int .i64 x) (.int .i64 0)]) (blocking := false) (shape := .select) (w' := w) rfl rfl (by decide) (by simp [go_sem, execOp, scase, Act.eval])) HK.out hr) ?_
  rw [Frame.finish_at]
  walk_nrm
  refine LoneTo.goes (n := 30) ?_
  s_op
  s_op
  s_c stepG_region_end
  s_c stepG_block
  s_cond true
  s_c stepG_seq
  s_reg
  s_op
  s_c stepG_region_end
  s_c stepG_ret'
  s_stop
  refine LoneTo.done ⟨.returned (.bool true), _, rfl, ⟨rfl, rfl⟩, rfl, rfl, rfl, rfl, _, Try.func15, by simp [results, Try.f15, Frame.at]⟩

set_option maxRecDepth 100000 in
theorem put_int_u_full (d cu co cap s r : Nat) (bu : Array Value) (x : Int) (w : World) (c0 : w.cell? ⟨d, 0, none⟩ = some (.chan (some cu))) (c1 : w.cell? ⟨d, 1, none⟩ = some (.chan (some co)))
    (hk : w.heap[cu]? = some (.chan cap bu false s r false)) (hr : cap ≤ bu.size) :
    Calls Try.prog 15 #[.pointer (some ⟨d, 0, none⟩), .bool true, .int .i64 x] w fun e w' => e = .returned (.bool false) ∧ w' = w := by
  have HK := Lib.hid hk
  clear hk
  refine calls_of_loneTo fun cs => ?_
  have e : Frame.enter Try.prog 15 #[.pointer (some ⟨d, 0, none⟩), .bool true, .int .i64 x] .normal = (base 15).at ⟨#[.pointer (some ⟨d, 0, none⟩), .bool true, .int .i64 x, undef, undef, undef, undef, undef, undef, undef, undef, undef, undef, undef, undef, undef, undef, undef, undef, undef, undef, undef], []⟩ [.code (Try.f15.body.getD .skip)] := by
    simp [Frame.enter, Frame.at, Try.func15, base, Try.f15]
  rw [e]
  clear e
  refine LoneTo.goes (n := 60) ?_
  simp only [Try.f15, Option.getD_some]
  s_c stepG_seq
  s_reg
  s_op
  s_c stepG_region_end
  s_c stepG_seq
  s_reg
  s_op
  s_op
  s_op
  s_op
  s_op
  s_c stepG_region_end
  s_c stepG_seq
  s_c stepG_seq
  s_reg
  s_op
  s_c stepG_region_end
  s_cond true
  s_reg
  s_op
  s_op
  s_op
  s_op
  s_op
  s_c stepG_region_end
  s_c stepG_seq
  s_c stepG_seq
  s_reg
  s_op
  s_c stepG_region_end
  s_reg
  s_op
  s_c stepG_region_end
  s_c stepG_seq
  s_reg
  s_stop
  refine LoneTo.step (step_lone_select_send_full (c := cu) (v := (.int .i64 x)) (z' := .int .i64 0) (cap := cap) (buf := bu) (s := s) (r := r) (tm := false)
    (stepG_comm (cases := #[scase cu (.int .i64 x) (.int .i64 0)]) (blocking := false) (shape := .select) (w' := w) rfl rfl (by decide) (by simp [go_sem, execOp, scase, Act.eval])) HK.out hr) ?_
  rw [Frame.finish_at]
  walk_nrm
  refine LoneTo.goes (n := 30) ?_
  s_op
  s_op
  s_c stepG_region_end
  s_c stepG_block
  s_cond false
  s_c stepG_seq
  s_reg
  s_op
  s_c stepG_region_end
  s_c stepG_ret'
  s_stop
  refine LoneTo.done ⟨.returned (.bool false), _, rfl, ⟨rfl, rfl⟩, rfl, rfl, rfl, rfl, _, Try.func15, by simp [results, Try.f15, Frame.at]⟩

set_option maxRecDepth 100000 in
theorem put_int_o_room (d cu co cap s r : Nat) (bu : Array Value) (x : Int) (w : World) (c0 : w.cell? ⟨d, 0, none⟩ = some (.chan (some cu))) (c1 : w.cell? ⟨d, 1, none⟩ = some (.chan (some co)))
    (hk : w.heap[co]? = some (.chan cap bu false s r false)) (hr : bu.size < cap) :
    Calls Try.prog 15 #[.pointer (some ⟨d, 0, none⟩), .bool false, .int .i64 x] w fun e w' => e = .returned (.bool true) ∧ w' = w.setChan co cap (bu.push (.int .i64 x)) false (s + 1) r false := by
  have HK := Lib.hid hk
  clear hk
  refine calls_of_loneTo fun cs => ?_
  have e : Frame.enter Try.prog 15 #[.pointer (some ⟨d, 0, none⟩), .bool false, .int .i64 x] .normal = (base 15).at ⟨#[.pointer (some ⟨d, 0, none⟩), .bool false, .int .i64 x, undef, undef, undef, undef, undef, undef, undef, undef, undef, undef, undef, undef, undef, undef, undef, undef, undef, undef, undef], []⟩ [.code (Try.f15.body.getD .skip)] := by
    simp [Frame.enter, Frame.at, Try.func15, base, Try.f15]
  rw [e]
  clear e
  refine LoneTo.goes (n := 60) ?_
  simp only [Try.f15, Option.getD_some]
  s_c stepG_seq
  s_reg
  s_op
  s_c stepG_region_end
  s_c stepG_seq
  s_reg
  s_op
  s_op
  s_op
  s_op
  s_op
  s_c stepG_region_end
  s_c stepG_seq
  s_c stepG_seq
  s_reg
  s_op
  s_c stepG_region_end
  s_cond false
  s_c stepG_skip
  s_c stepG_seq
  s_c stepG_seq
  s_reg
  s_op
  s_c stepG_region_end
  s_reg
  s_op
  s_c stepG_region_end
  s_c stepG_seq
  s_reg
  s_stop
  refine LoneTo.step (step_lone_select_send_room (c := co) (v := (.int .i64 x)) (z' := .int .i64 0) (cap := cap) (buf := bu) (s := s) (r := r) (tm := false)
    (stepG_comm (cases := #[scase co (.int .i64 x) (.int .i64 0)]) (blocking := false) (shape := .select) (w' := w) rfl rfl (by decide) (by simp [go_sem, execOp, scase, Act.eval])) HK.out hr) ?_
  rw [Frame.finish_at]
  walk_nrm
  refine LoneTo.goes (n := 30) ?_
  s_op
  s_op
  s_c stepG_region_end
  s_c stepG_block
  s_cond true
  s_c stepG_seq
  s_reg
  s_op
  s_c stepG_region_end
  s_c stepG_ret'
  s_stop
  refine LoneTo.done ⟨.returned (.bool true), _, rfl, ⟨rfl, rfl⟩, rfl, rfl, rfl, rfl, _, Try.func15, by simp [results, Try.f15, Frame.at]⟩

set_option maxRecDepth 100000 in
theorem put_int_o_full (d cu co cap s r : Nat) (bu : Array Value) (x : Int) (w : World) (c0 : w.cell? ⟨d, 0, none⟩ = some (.chan (some cu))) (c1 : w.cell? ⟨d, 1, none⟩ = some (.chan (some co)))
    (hk : w.heap[co]? = some (.chan cap bu false s r false)) (hr : cap ≤ bu.size) :
    Calls Try.prog 15 #[.pointer (some ⟨d, 0, none⟩), .bool false, .int .i64 x] w fun e w' => e = .returned (.bool false) ∧ w' = w := by
  have HK := Lib.hid hk
  clear hk
  refine calls_of_loneTo fun cs => ?_
  have e : Frame.enter Try.prog 15 #[.pointer (some ⟨d, 0, none⟩), .bool false, .int .i64 x] .normal = (base 15).at ⟨#[.pointer (some ⟨d, 0, none⟩), .bool false, .int .i64 x, undef, undef, undef, undef, undef, undef, undef, undef, undef, undef, undef, undef, undef, undef, undef, undef, undef, undef, undef], []⟩ [.code (Try.f15.body.getD .skip)] := by
    simp [Frame.enter, Frame.at, Try.func15, base, Try.f15]
  rw [e]
  clear e
  refine LoneTo.goes (n := 60) ?_
  simp only [Try.f15, Option.getD_some]
  s_c stepG_seq
  s_reg
  s_op
  s_c stepG_region_end
  s_c stepG_seq
  s_reg
  s_op
  s_op
  s_op
  s_op
  s_op
  s_c stepG_region_end
  s_c stepG_seq
  s_c stepG_seq
  s_reg
  s_op
  s_c stepG_region_end
  s_cond false
  s_c stepG_skip
  s_c stepG_seq
  s_c stepG_seq
  s_reg
  s_op
  s_c stepG_region_end
  s_reg
  s_op
  s_c stepG_region_end
  s_c stepG_seq
  s_reg
  s_stop
  refine LoneTo.step (step_lone_select_send_full (c := co) (v := (.int .i64 x)) (z' := .int .i64 0) (cap := cap) (buf := bu) (s := s) (r := r) (tm := false)
    (stepG_comm (cases := #[scase co (.int .i64 x) (.int .i64 0)]) (blocking := false) (shape := .select) (w' := w) rfl rfl (by decide) (by simp [go_sem, execOp, scase, Act.eval])) HK.out hr) ?_
  rw [Frame.finish_at]
  walk_nrm
  refine LoneTo.goes (n := 30) ?_
  s_op
  s_op
  s_c stepG_region_end
  s_c stepG_block
  s_cond false
  s_c stepG_seq
  s_reg
  s_op
  s_c stepG_region_end
  s_c stepG_ret'
  s_stop
  refine LoneTo.done ⟨.returned (.bool false), _, rfl, ⟨rfl, rfl⟩, rfl, rfl, rfl, rfl, _, Try.func15, by simp [results, Try.f15, Frame.at]⟩

set_option maxRecDepth 100000 in
theorem take_int_u (d cu co cap scu rcu sco rco : Nat) (bu : Array Value) (x : Int) (w : World) (c0 : w.cell? ⟨d, 0, none⟩ = some (.chan (some cu))) (c1 : w.cell? ⟨d, 1, none⟩ = some (.chan (some co)))
    (hu : w.heap[cu]? = some (.chan cap bu false scu rcu false)) (hn : 0 < bu.size) (hv : bu.getD 0 undef = .int .i64 x) :
    Calls Try.prog 11 #[.pointer (some ⟨d, 0, none⟩)] w fun e w' => e = .returned (.tuple #[.int .i64 x, .bool true]) ∧ w' = w.setChan cu cap (bu.extract 1 bu.size) false scu (rcu + 1) false := by
  have HU := Lib.hid hu
  clear hu
  refine calls_of_loneTo fun cs => ?_
  have e : Frame.enter Try.prog 11 #[.pointer (some ⟨d, 0, none⟩)] .normal = (base 11).at ⟨#[.pointer (some ⟨d, 0, none⟩), undef, undef, undef, undef, undef, undef, undef, undef, undef, undef, undef, undef, undef, undef, undef, undef, undef, undef, undef, undef, undef, undef, undef, undef, undef], []⟩ [.code (Try.f11.body.getD .skip)] := by
    simp [Frame.enter, Frame.at, Try.func11, base, Try.f11]
  rw [e]
  clear e
  refine LoneTo.goes (n := 60) ?_
  simp only [Try.f11, Option.getD_some]
  s_c stepG_seq
  s_reg
  s_op
  s_op
  s_c stepG_region_end
  s_c stepG_seq
  s_c stepG_seq
  s_reg
  s_op
  s_op
  s_op
  s_op
  s_c stepG_region_end
  s_c stepG_seq
  s_reg
  s_stop
  refine LoneTo.step (step_lone_select_recv_buf (closed := false) (c := cu) (z := .int .i64 0) (cap := cap) (buf := bu) (s := scu) (r := rcu) (tm := false)
    (stepG_comm (cases := #[rcase cu (.int .i64 0)]) (blocking := false) (shape := .select) (w' := w) rfl rfl (by decide) (by simp [go_sem, execOp, rcase, Act.eval])) HU.out hn) ?_
  rw [Frame.finish_at, hv]
  walk_nrm
  refine LoneTo.goes (n := 60) ?_
  s_op
  s_op
  s_c stepG_region_end
  s_c stepG_block
  s_cond true
  s_c stepG_seq
  s_reg
  s_op
  s_op
  s_c stepG_region_end
  s_c stepG_seq
  s_reg
  s_op
  s_op
  s_op
  s_c stepG_region_end
  s_c stepG_ret'
  s_stop
  refine LoneTo.done ⟨.returned (.tuple #[.int .i64 x, .bool true]), _, rfl, ⟨rfl, rfl⟩, rfl, rfl, rfl, rfl, _, Try.func11, by simp [results, Try.f11, Frame.at]⟩

set_option maxRecDepth 100000 in
theorem take_int_o (d cu co cap scu rcu sco rco : Nat) (bu : Array Value) (x : Int) (w : World) (c0 : w.cell? ⟨d, 0, none⟩ = some (.chan (some cu))) (c1 : w.cell? ⟨d, 1, none⟩ = some (.chan (some co)))
    (hu : w.heap[cu]? = some (.chan cap #[] false scu rcu false)) (ho : w.heap[co]? = some (.chan cap bu false sco rco false)) (hn : 0 < bu.size) (hv : bu.getD 0 undef = .int .i64 x) :
    Calls Try.prog 11 #[.pointer (some ⟨d, 0, none⟩)] w fun e w' => e = .returned (.tuple #[.int .i64 x, .bool true]) ∧ w' = w.setChan co cap (bu.extract 1 bu.size) false sco (rco + 1) false := by
  have HU := Lib.hid hu
  have HO := Lib.hid ho
  clear hu ho
  refine calls_of_loneTo fun cs => ?_
  have e : Frame.enter Try.prog 11 #[.pointer (some ⟨d, 0, none⟩)] .normal = (base 11).at ⟨#[.pointer (some ⟨d, 0, none⟩), undef, undef, undef, undef, undef, undef, undef, undef, undef, undef, undef, undef, undef, undef, undef, undef, undef, undef, undef, undef, undef, undef, undef, undef, undef], []⟩ [.code (Try.f11.body.getD .skip)] := by
    simp [Frame.enter, Frame.at, Try.func11, base, Try.f11]
  rw [e]
  clear e
  refine LoneTo.goes (n := 60) ?_
  simp only [Try.f11, Option.getD_some]
  s_c stepG_seq
  s_reg
  s_op
  s_op
  s_c stepG_region_end
  s_c stepG_seq
  s_c stepG_seq
  s_reg
  s_op
  s_op
  s_op
  s_op
  s_c stepG_region_end
  s_c stepG_seq
  s_reg
  s_stop
  refine LoneTo.step (step_lone_select_default (c := cu) (z := .int .i64 0) (cap := cap)  (s := scu) (r := rcu) (tm := false)
    (stepG_comm (cases := #[rcase cu (.int .i64 0)]) (blocking := false) (shape := .select) (w' := w) rfl rfl (by decide) (by simp [go_sem, execOp, rcase, Act.eval])) HU.out) ?_
  rw [Frame.finish_at]
  walk_nrm
  refine LoneTo.goes (n := 60) ?_
  s_op
  s_op
  s_c stepG_region_end
  s_c stepG_block
  s_cond false
  s_c stepG_skip
  s_c stepG_inBlock
  s_c stepG_seq
  s_reg
  s_op
  s_op
  s_op
  s_op
  s_c stepG_region_end
  s_c stepG_seq
  s_reg
  s_stop
  refine LoneTo.step (step_lone_select_recv_buf (closed := false) (c := co) (z := .int .i64 0) (cap := cap) (buf := bu) (s := sco) (r := rco) (tm := false)
    (stepG_comm (cases := #[rcase co (.int .i64 0)]) (blocking := false) (shape := .select) (w' := w) rfl rfl (by decide) (by simp [go_sem, execOp, rcase, Act.eval])) HO.out hn) ?_
  rw [Frame.finish_at, hv]
  walk_nrm
  refine LoneTo.goes (n := 60) ?_
  s_op
  s_op
  s_c stepG_region_end
  s_c stepG_block
  s_cond true
  s_c stepG_seq
  s_reg
  s_op
  s_op
  s_c stepG_region_end
  s_c stepG_seq
  s_reg
  s_op
  s_op
  s_op
  s_c stepG_region_end
  s_c stepG_ret'
  s_stop
  refine LoneTo.done ⟨.returned (.tuple #[.int .i64 x, .bool true]), _, rfl, ⟨rfl, rfl⟩, rfl, rfl, rfl, rfl, _, Try.func11, by simp [results, Try.f11, Frame.at]⟩

set_option maxRecDepth 100000 in
theorem take_int_n (d cu co cap scu rcu sco rco : Nat) (bu : Array Value) (x : Int) (w : World) (c0 : w.cell? ⟨d, 0, none⟩ = some (.chan (some cu))) (c1 : w.cell? ⟨d, 1, none⟩ = some (.chan (some co)))
    (hu : w.heap[cu]? = some (.chan cap #[] false scu rcu false)) (ho : w.heap[co]? = some (.chan cap #[] false sco rco false)) :
    Calls Try.prog 11 #[.pointer (some ⟨d, 0, none⟩)] w fun e w' => e = .returned (.tuple #[.int .i64 0, .bool false]) ∧ w' = w := by
  have HU := Lib.hid hu
  have HO := Lib.hid ho
  clear hu ho
  refine calls_of_loneTo fun cs => ?_
  have e : Frame.enter Try.prog 11 #[.pointer (some ⟨d, 0, none⟩)] .normal = (base 11).at ⟨#[.pointer (some ⟨d, 0, none⟩), undef, undef, undef, undef, undef, undef, undef, undef, undef, undef, undef, undef, undef, undef, undef, undef, undef, undef, undef, undef, undef, undef, undef, undef, undef], []⟩ [.code (Try.f11.body.getD .skip)] := by
    simp [Frame.enter, Frame.at, Try.func11, base, Try.f11]
  rw [e]
  clear e
  refine LoneTo.goes (n := 60) ?_
  simp only [Try.f11, Option.getD_some]
  s_c stepG_seq
  s_reg
  s_op
  s_op
  s_c stepG_region_end
  s_c stepG_seq
  s_c stepG_seq
  s_reg
  s_op
  s_op
  s_op
  s_op
  s_c stepG_region_end
  s_c stepG_seq
  s_reg
  s_stop
  refine LoneTo.step (step_lone_select_default (c := cu) (z := .int .i64 0) (cap := cap)  (s := scu) (r := rcu) (tm := false)
    (stepG_comm (cases := #[rcase cu (.int .i64 0)]) (blocking := false) (shape := .select) (w' := w) rfl rfl (by decide) (by simp [go_sem, execOp, rcase, Act.eval])) HU.out) ?_
  rw [Frame.finish_at]
  walk_nrm
  refine LoneTo.goes (n := 60) ?_
  s_op
  s_op
  s_c stepG_region_end
  s_c stepG_block
  s_cond false
  s_c stepG_skip
  s_c stepG_inBlock
  s_c stepG_seq
  s_reg
  s_op
  s_op
  s_op
  s_op
  s_c stepG_region_end
  s_c stepG_seq
  s_reg
  s_stop
  refine LoneTo.step (step_lone_select_default (c := co) (z := .int .i64 0) (cap := cap)  (s := sco) (r := rco) (tm := false)
    (stepG_comm (cases := #[rcase co (.int .i64 0)]) (blocking := false) (shape := .select) (w' := w) rfl rfl (by decide) (by simp [go_sem, execOp, rcase, Act.eval])) HO.out) ?_
  rw [Frame.finish_at]
  walk_nrm
  refine LoneTo.goes (n := 60) ?_
  s_op
  s_op
  s_c stepG_region_end
  s_c stepG_block
  s_cond false
  s_c stepG_seq
  s_reg
  s_op
  s_c stepG_region_end
  s_c stepG_seq
  s_reg
  s_op
  s_op
  s_op
  s_c stepG_region_end
  s_c stepG_ret'
  s_stop
  refine LoneTo.done ⟨.returned (.tuple #[.int .i64 0, .bool false]), _, rfl, ⟨rfl, rfl⟩, rfl, rfl, rfl, rfl, _, Try.func11, by simp [results, Try.f11, Frame.at]⟩

end Go.Proofs.Ytbonifmhlbakbaa
