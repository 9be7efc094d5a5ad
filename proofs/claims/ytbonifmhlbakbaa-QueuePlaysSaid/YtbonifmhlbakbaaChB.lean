/- Contracts of a queue's Put and Take: the machine's own steps at a select of one case with a default, in one goroutine. -/
import Derived.Test.YtbonifmhlbakbaaStructs
import Derived.Conc.LoneCalls
import Derived.Conc.LoneSelect
import Derived.Conc.LoneSelectN
import Derived.KernelRfl
import Derived.Laws.Rows
namespace Go.Proofs.Ytbonifmhlbakbaa
set_option linter.unusedVariables false
open Go.Conc Go.RowKit

set_option maxRecDepth 100000 in
theorem put_bool_u_room (d cu co cap s r : Nat) (bu : Array Value) (x : Bool) (w : World) (c0 : w.cell? ⟨d, 0, none⟩ = some (.chan (some cu))) (c1 : w.cell? ⟨d, 1, none⟩ = some (.chan (some co)))
    (hk : w.heap[cu]? = some (.chan cap bu false s r false)) (hr : bu.size < cap) :
    Calls Try.prog 20 #[.pointer (some ⟨d, 0, none⟩), .bool true, .bool x] w fun e w' => e = .returned (.bool true) ∧ w' = w.setChan cu cap (bu.push (.bool x)) false (s + 1) r false := by
  have HK := Lib.hid hk
  clear hk
  refine calls_of_loneTo fun cs => ?_
  have e : Frame.enter Try.prog 20 #[.pointer (some ⟨d, 0, none⟩), .bool true, .bool x] .normal = (base 20).at ⟨#[.pointer (some ⟨d, 0, none⟩), .bool true, .bool x, undef, undef, undef, undef, undef, undef, undef, undef, undef, undef, undef, undef, undef, undef, undef, undef, undef, undef, undef], []⟩ [.code (Try.f20.body.getD .skip)] := by
    simp [Frame.enter, Frame.at, Try.func20, base, Try.f20]
  rw [e]
  clear e
  refine LoneTo.goes (n := 60) ?_
  simp only [Try.f20, Option.getD_some]
  s_c stepG_seq
  s_reg
  s_op
  s_c stepG_region_end
  s_c stepG_seq
  s_reg
  s_op
  s_op
  s_op
  s_op
  s_op
  s_c stepG_region_end
  s_c stepG_seq
  s_c stepG_seq
  s_reg
  s_op
  s_c stepG_region_end
  s_cond true
  s_reg
  s_op
  s_op
  s_op
  s_op
  s_op
  s_c stepG_region_end
  s_c stepG_seq
  s_c stepG_seq
  s_reg
  s_op
  s_c stepG_region_end
  s_reg
  s_op
  s_c stepG_region_end
  s_c stepG_seq
  s_reg
  s_stop
  refine LoneTo.step (step_lone_select_send_room (c := cu) (v := (.bool x)) (z' := .bool false) (cap := cap) (buf := bu) (s := s) (r := r) (tm := false)
    (stepG_comm (cases := #[scase cu (.bool x) (.bool false)]) (blocking := false) (shape := .select) (w' := w) rfl rfl (by decide) (by simp [go_sem, execOp, scase, Act.eval])) HK.out hr) ?_
  rw [Frame.finish_at]
  walk_nrm
  refine LoneTo.goes (n := 30) ?_
  s_op
  s_op
  s_c stepG_region_end
  s_c stepG_block
  s_cond true
  s_c stepG_seq
  s_reg
  s_op
  s_c stepG_region_end
  s_c stepG_ret'
  s_stop
  refine LoneTo.done ⟨.returned (.bool true), _, rfl, ⟨rfl, rfl⟩, rfl, rfl, rfl, rfl, _, Try.func20, by simp [results, Try.f20, Frame.at]⟩

set_option maxRecDepth 100000 in
theorem put_bool_u_full (d cu co cap s r : Nat) (bu : Array Value) (x : Bool) (w : World) (c0 : w.cell? ⟨d, 0, none⟩ = some (.chan (some cu))) (c1 : w.cell? ⟨d, 1, none⟩ = some (.chan (some co)))
    (hk : w.heap[cu]? = some (.chan cap bu false s r false)) (hr : cap ≤ bu.size) :
    Calls Try.prog 20 #[.pointer (some ⟨d, 0, none⟩), .bool true, .bool x] w fun e w' => e = .returned (.bool false) ∧ w' = w := by
  have HK := Lib.hid hk
  clear hk
  refine calls_of_loneTo fun cs => ?_
  have e : Frame.enter Try.prog 20 #[.pointer (some ⟨d, 0, none⟩), .bool true, .bool x] .normal = (base 20).at ⟨#[.pointer (some ⟨d, 0, none⟩), .bool true, .bool x, undef, undef, undef, undef, undef, undef, undef, undef, undef, undef, undef, undef, undef, undef, undef, undef, undef, undef, undef], []⟩ [.code (Try.f20.body.getD .skip)] := by
    simp [Frame.enter, Frame.at, Try.func20, base, Try.f20]
  rw [e]
  clear e
  refine LoneTo.goes (n := 60) ?_
  simp only [Try.f20, Option.getD_some]
  s_c stepG_seq
  s_reg
  s_op
  s_c stepG_region_end
  s_c stepG_seq
  s_reg
  s_op
  s_op
  s_op
  s_op
  s_op
  s_c stepG_region_end
  s_c stepG_seq
  s_c stepG_seq
  s_reg
  s_op
  s_c stepG_region_end
  s_cond true
  s_reg
  s_op
  s_op
  s_op
  s_op
  s_op
  s_c stepG_region_end
  s_c stepG_seq
  s_c stepG_seq
  s_reg
  s_op
  s_c stepG_region_end
  s_reg
  s_op
  s_c stepG_region_end
  s_c stepG_seq
  s_reg
  s_stop
  refine LoneTo.step (step_lone_select_send_full (c := cu) (v := (.bool x)) (z' := .bool false) (cap := cap) (buf := bu) (s := s) (r := r) (tm := false)
    (stepG_comm (cases := #[scase cu (.bool x) (.bool false)]) (blocking := false) (shape := .select) (w' := w) rfl rfl (by decide) (by simp [go_sem, execOp, scase, Act.eval])) HK.out hr) ?_
  rw [Frame.finish_at]
  walk_nrm
  refine LoneTo.goes (n := 30) ?_
  s_op
  s_op
  s_c stepG_region_end
  s_c stepG_block
  s_cond false
  s_c stepG_seq
  s_reg
  s_op
  s_c stepG_region_end
  s_c stepG_ret'
  s_stop
  refine LoneTo.done ⟨.returned (.bool false), _, rfl, ⟨rfl, rfl⟩, rfl, rfl, rfl, rfl, _, Try.func20, by simp [results, Try.f20, Frame.at]⟩

set_option maxRecDepth 100000 in
theorem put_bool_o_room (d cu co cap s r : Nat) (bu : Array Value) (x : Bool) (w : World) (c0 : w.cell? ⟨d, 0, none⟩ = some (.chan (some cu))) (c1 : w.cell? ⟨d, 1, none⟩ = some (.chan (some co)))
    (hk : w.heap[co]? = some (.chan cap bu false s r false)) (hr : bu.size < cap) :
    Calls Try.prog 20 #[.pointer (some ⟨d, 0, none⟩), .bool false, .bool x] w fun e w' => e = .returned (.bool true) ∧ w' = w.setChan co cap (bu.push (.bool x)) false (s + 1) r false := by
  have HK := Lib.hid hk
  clear hk
  refine calls_of_loneTo fun cs => ?_
  have e : Frame.enter Try.prog 20 #[.pointer (some ⟨d, 0, none⟩), .bool false, .bool x] .normal = (base 20).at ⟨#[.pointer (some ⟨d, 0, none⟩), .bool false, .bool x, undef, undef, undef, undef, undef, undef, undef, undef, undef, undef, undef, undef, undef, undef, undef, undef, undef, undef, undef], []⟩ [.code (Try.f20.body.getD .skip)] := by
    simp [Frame.enter, Frame.at, Try.func20, base, Try.f20]
  rw [e]
  clear e
  refine LoneTo.goes (n := 60) ?_
  simp only [Try.f20, Option.getD_some]
  s_c stepG_seq
  s_reg
  s_op
  s_c stepG_region_end
  s_c stepG_seq
  s_reg
  s_op
  s_op
  s_op
  s_op
  s_op
  s_c stepG_region_end
  s_c stepG_seq
  s_c stepG_seq
  s_reg
  s_op
  s_c stepG_region_end
  s_cond false
  s_c stepG_skip
  s_c stepG_seq
  s_c stepG_seq
  s_reg
  s_op
  s_c stepG_region_end
  s_reg
  s_op
  s_c stepG_region_end
  s_c stepG_seq
  s_reg
  s_stop
  refine LoneTo.step (step_lone_select_send_room (c := co) (v := (.bool x)) (z' := .bool false) (cap := cap) (buf := bu) (s := s) (r := r) (tm := false)
    (stepG_comm (cases := #[scase co (.bool x) (.bool false)]) (blocking := false) (shape := .select) (w' := w) rfl rfl (by decide) (by simp [go_sem, execOp, scase, Act.eval])) HK.out hr) ?_
  rw [Frame.finish_at]
  walk_nrm
  refine LoneTo.goes (n := 30) ?_
  s_op
  s_op
  s_c stepG_region_end
  s_c stepG_block
  s_cond true
  s_c stepG_seq
  s_reg
  s_op
  s_c stepG_region_end
  s_c stepG_ret'
  s_stop
  refine LoneTo.done ⟨.returned (.bool true), _, rfl, ⟨rfl, rfl⟩, rfl, rfl, rfl, rfl, _, Try.func20, by simp [results, Try.f20, Frame.at]⟩

set_option maxRecDepth 100000 in
theorem put_bool_o_full (d cu co cap s r : Nat) (bu : Array Value) (x : Bool) (w : World) (c0 : w.cell? ⟨d, 0, none⟩ = some (.chan (some cu))) (c1 : w.cell? ⟨d, 1, none⟩ = some (.chan (some co)))
    (hk : w.heap[co]? = some (.chan cap bu false s r false)) (hr : cap ≤ bu.size) :
    Calls Try.prog 20 #[.pointer (some ⟨d, 0, none⟩), .bool false, .bool x] w fun e w' => e = .returned (.bool false) ∧ w' = w := by
  have HK := Lib.hid hk
  clear hk
  refine calls_of_loneTo fun cs => ?_
  have e : Frame.enter Try.prog 20 #[.pointer (some ⟨d, 0, none⟩), .bool false, .bool x] .normal = (base 20).at ⟨#[.pointer (some ⟨d, 0, none⟩), .bool false, .bool x, undef, undef, undef, undef, undef, undef, undef, undef, undef, undef, undef, undef, undef, undef, undef, undef, undef, undef, undef], []⟩ [.code (Try.f20.body.getD .skip)] := by
    simp [Frame.enter, Frame.at, Try.func20, base, Try.f20]
  rw [e]
  clear e
  refine LoneTo.goes (n := 60) ?_
  simp only [Try.f20, Option.getD_some]
  s_c stepG_seq
  s_reg
  s_op
  s_c stepG_region_end
  s_c stepG_seq
  s_reg
  s_op
  s_op
  s_op
  s_op
  s_op
  s_c stepG_region_end
  s_c stepG_seq
  s_c stepG_seq
  s_reg
  s_op
  s_c stepG_region_end
  s_cond false
  s_c stepG_skip
  s_c stepG_seq
  s_c stepG_seq
  s_reg
  s_op
  s_c stepG_region_end
  s_reg
  s_op
  s_c stepG_region_end
  s_c stepG_seq
  s_reg
  s_stop
  refine LoneTo.step (step_lone_select_send_full (c := co) (v := (.bool x)) (z' := .bool false) (cap := cap) (buf := bu) (s := s) (r := r) (tm := false)
    (stepG_comm (cases := #[scase co (.bool x) (.bool false)]) (blocking := false) (shape := .select) (w' := w) rfl rfl (by decide) (by simp [go_sem, execOp, scase, Act.eval])) HK.out hr) ?_
  rw [Frame.finish_at]
  walk_nrm
  refine LoneTo.goes (n := 30) ?_
  s_op
  s_op
  s_c stepG_region_end
  s_c stepG_block
  s_cond false
  s_c stepG_seq
  s_reg
  s_op
  s_c stepG_region_end
  s_c stepG_ret'
  s_stop
  refine LoneTo.done ⟨.returned (.bool false), _, rfl, ⟨rfl, rfl⟩, rfl, rfl, rfl, rfl, _, Try.func20, by simp [results, Try.f20, Frame.at]⟩

set_option maxRecDepth 100000 in
theorem take_bool_u (d cu co cap scu rcu sco rco : Nat) (bu : Array Value) (x : Bool) (w : World) (c0 : w.cell? ⟨d, 0, none⟩ = some (.chan (some cu))) (c1 : w.cell? ⟨d, 1, none⟩ = some (.chan (some co)))
    (hu : w.heap[cu]? = some (.chan cap bu false scu rcu false)) (hn : 0 < bu.size) (hv : bu.getD 0 undef = .bool x) :
    Calls Try.prog 22 #[.pointer (some ⟨d, 0, none⟩)] w fun e w' => e = .returned (.tuple #[.bool x, .bool true]) ∧ w' = w.setChan cu cap (bu.extract 1 bu.size) false scu (rcu + 1) false := by
  have HU := Lib.hid hu
  clear hu
  refine calls_of_loneTo fun cs => ?_
  have e : Frame.enter Try.prog 22 #[.pointer (some ⟨d, 0, none⟩)] .normal = (base 22).at ⟨#[.pointer (some ⟨d, 0, none⟩), undef, undef, undef, undef, undef, undef, undef, undef, undef, undef, undef, undef, undef, undef, undef, undef, undef, undef, undef, undef, undef, undef, undef, undef, undef], []⟩ [.code (Try.f22.body.getD .skip)] := by
    simp [Frame.enter, Frame.at, Try.func22, base, Try.f22]
  rw [e]
  clear e
  refine LoneTo.goes (n := 60) ?_
  simp only [Try.f22, Option.getD_some]
  s_c stepG_seq
  s_reg
  s_op
  s_op
  s_c stepG_region_end
  s_c stepG_seq
  s_c stepG_seq
  s_reg
  s_op
  s_op
  s_op
  s_op
  s_c stepG_region_end
  s_c stepG_seq
  s_reg
  s_stop
  refine LoneTo.step (step_lone_select_recv_buf (closed := false) (c := cu) (z := .bool false) (cap := cap) (buf := bu) (s := scu) (r := rcu) (tm := false)
    (stepG_comm (cases := #[rcase cu (.bool false)]) (blocking := false) (shape := .select) (w' := w) rfl rfl (by decide) (by simp [go_sem, execOp, rcase, Act.eval])) HU.out hn) ?_
  rw [Frame.finish_at, hv]
  walk_nrm
  refine LoneTo.goes (n := 60) ?_
  s_op
  s_op
  s_c stepG_region_end
  s_c stepG_block
  s_cond true
  s_c stepG_seq
  s_reg
  s_op
  s_op
  s_c stepG_region_end
  s_c stepG_seq
  s_reg
  s_op
  s_op
  s_op
  s_c stepG_region_end
  s_c stepG_ret'
  s_stop
  refine LoneTo.done ⟨.returned (.tuple #[.bool x, .bool true]), _, rfl, ⟨rfl, rfl⟩, rfl, rfl, rfl, rfl, _, Try.func22, by simp [results, Try.f22, Frame.at]⟩

set_option maxRecDepth 100000 in
theorem take_bool_o (d cu co cap scu rcu sco rco : Nat) (bu : Array Value) (x : Bool) (w : World) (c0 : w.cell? ⟨d, 0, none⟩ = some (.chan (some cu))) (c1 : w.cell? ⟨d, 1, none⟩ = some (.chan (some co)))
    (hu : w.heap[cu]? = some (.chan cap #[] false scu rcu false)) (ho : w.heap[co]? = some (.chan cap bu false sco rco false)) (hn : 0 < bu.size) (hv : bu.getD 0 undef = .bool x) :
    Calls Try.prog 22 #[.pointer (some ⟨d, 0, none⟩)] w fun e w' => e = .returned (.tuple #[.bool x, .bool true]) ∧ w' = w.setChan co cap (bu.extract 1 bu.size) false sco (rco + 1) false := by
  have HU := Lib.hid hu
  have HO := Lib.hid ho
  clear hu ho
  refine calls_of_loneTo fun cs => ?_
  have e : Frame.enter Try.prog 22 #[.pointer (some ⟨d, 0, none⟩)] .normal = (base 22).at ⟨#[.pointer (some ⟨d, 0, none⟩), undef, undef, undef, undef, undef, undef, undef, undef, undef, undef, undef, undef, undef, undef, undef, undef, undef, undef, undef, undef, undef, undef, undef, undef, undef], []⟩ [.code (Try.f22.body.getD .skip)] := by
    simp [Frame.enter, Frame.at, Try.func22, base, Try.f22]
  rw [e]
  clear e
  refine LoneTo.goes (n := 60) ?_
  simp only [Try.f22, Option.getD_some]
  s_c stepG_seq
  s_reg
  s_op
  s_op
  s_c stepG_region_end
  s_c stepG_seq
  s_c stepG_seq
  s_reg
  s_op
  s_op
  s_op
  s_op
  s_c stepG_region_end
  s_c stepG_seq
  s_reg
  s_stop
  refine LoneTo.step (step_lone_select_default (c := cu) (z := .bool false) (cap := cap)  (s := scu) (r := rcu) (tm := false)
    (stepG_comm (cases := #[rcase cu (.bool false)]) (blocking := false) (shape := .select) (w' := w) rfl rfl (by decide) (by simp [go_sem, execOp, rcase, Act.eval])) HU.out) ?_
  rw [Frame.finish_at]
  walk_nrm
  refine LoneTo.goes (n := 60) ?_
  s_op
  s_op
  s_c stepG_region_end
  s_c stepG_block
  s_cond false
  s_c stepG_skip
  s_c stepG_inBlock
  s_c stepG_seq
  s_reg
  s_op
  s_op
  s_op
  s_op
  s_c stepG_region_end
  s_c stepG_seq
  s_reg
  s_stop
  refine LoneTo.step (step_lone_select_recv_buf (closed := false) (c := co) (z := .bool false) (cap := cap) (buf := bu) (s := sco) (r := rco) (tm := false)
    (stepG_comm (cases := #[rcase co (.bool false)]) (blocking := false) (shape := .select) (w' := w) rfl rfl (by decide) (by simp [go_sem, execOp, rcase, Act.eval])) HO.out hn) ?_
  rw [Frame.finish_at, hv]
  walk_nrm
  refine LoneTo.goes (n := 60) ?_
  s_op
  s_op
  s_c stepG_region_end
  s_c stepG_block
  s_cond true
  s_c stepG_seq
  s_reg
  s_op
  s_op
  s_c stepG_region_end
  s_c stepG_seq
  s_reg
  s_op
  s_op
  s_op
  s_c stepG_region_end
  s_c stepG_ret'
  s_stop
  refine LoneTo.done ⟨.returned (.tuple #[.bool x, .bool true]), _, rfl, ⟨rfl, rfl⟩, rfl, rfl, rfl, rfl, _, Try.func22, by simp [results, Try.f22, Frame.at]⟩

set_option maxRecDepth 100000 in
theorem take_bool_n (d cu co cap scu rcu sco rco : Nat) (bu : Array Value) (x : Bool) (w : World) (c0 : w.cell? ⟨d, 0, none⟩ = some (.chan (some cu))) (c1 : w.cell? ⟨d, 1, none⟩ = some (.chan (some co)))
    (hu : w.heap[cu]? = some (.chan cap #[] false scu rcu false)) (ho : w.heap[co]? = some (.chan cap #[] false sco rco false)) :
    Calls Try.prog 22 #[.pointer (some ⟨d, 0, none⟩)] w fun e w' => e = .returned (.tuple #[.bool false, .bool false]) ∧ w' = w := by
  have HU := Lib.hid hu
  have HO := Lib.hid ho
  clear hu ho
  refine calls_of_loneTo fun cs => ?_
  have e : Frame.enter Try.prog 22 #[.pointer (some ⟨d, 0, none⟩)] .normal = (base 22).at ⟨#[.pointer (some ⟨d, 0, none⟩), undef, undef, undef, undef, undef, undef, undef, undef, undef, undef, undef, undef, undef, undef, undef, undef, undef, undef, undef, undef, undef, undef, undef, undef, undef], []⟩ [.code (Try.f22.body.getD .skip)] := by
    simp [Frame.enter, Frame.at, Try.func22, base, Try.f22]
  rw [e]
  clear e
  refine LoneTo.goes (n := 60) ?_
  simp only [Try.f22, Option.getD_some]
  s_c stepG_seq
  s_reg
  s_op
  s_op
  s_c stepG_region_end
  s_c stepG_seq
  s_c stepG_seq
  s_reg
  s_op
  s_op
  s_op
  s_op
  s_c stepG_region_end
  s_c stepG_seq
  s_reg
  s_stop
  refine LoneTo.step (step_lone_select_default (c := cu) (z := .bool false) (cap := cap)  (s := scu) (r := rcu) (tm := false)
    (stepG_comm (cases := #[rcase cu (.bool false)]) (blocking := false) (shape := .select) (w' := w) rfl rfl (by decide) (by simp [go_sem, execOp, rcase, Act.eval])) HU.out) ?_
  rw [Frame.finish_at]
  walk_nrm
  refine LoneTo.goes (n := 60) ?_
  s_op
  s_op
  s_c stepG_region_end
  s_c stepG_block
  s_cond false
  s_c stepG_skip
  s_c stepG_inBlock
  s_c stepG_seq
  s_reg
  s_op
  s_op
  s_op
  s_op
  s_c stepG_region_end
  s_c stepG_seq
  s_reg
  s_stop
  refine LoneTo.step (step_lone_select_default (c := co) (z := .bool false) (cap := cap)  (s := sco) (r := rco) (tm := false)
    (stepG_comm (cases := #[rcase co (.bool false)]) (blocking := false) (shape := .select) (w' := w) rfl rfl (by decide) (by simp [go_sem, execOp, rcase, Act.eval])) HO.out) ?_
  rw [Frame.finish_at]
  walk_nrm
  refine LoneTo.goes (n := 60) ?_
  s_op
  s_op
  s_c stepG_region_end
  s_c stepG_block
  s_cond false
  s_c stepG_seq
  s_reg
  s_op
  s_c stepG_region_end
  s_c stepG_seq
  s_reg
  s_op
  s_op
  s_op
  s_c stepG_region_end
  s_c stepG_ret'
  s_stop
  refine LoneTo.done ⟨.returned (.tuple #[.bool false, .bool false]), _, rfl, ⟨rfl, rfl⟩, rfl, rfl, rfl, rfl, _, Try.func22, by simp [results, Try.f22, Frame.at]⟩

end Go.Proofs.Ytbonifmhlbakbaa
