/-
  No cell of these rows narrows 'for every input' (looked for: loops, veiled, ifaces, maps, wideKeys, modest, calm, conditions, laid).
  DERIVED. THE GIVEN ROWS OF THIS SEAT. 4 by the template 'for every input the law returns true; each argument reads behind the call as it read before'; 0 by the template 'total and deterministic' (their statements: YtfloceoopjokcaaTotals.lean).
  GIVEN WITH THE SEED: the statements are not yours to turn. If you find one false, say at which input.
  Laid BY PROGRAM, IN A SANDBOX (cutbox-rows.mjs): the forced cells as the released guide's own fill.sh prints them over the translation 270740030551a496… (all of the seat's roots in one cut). By AI agents, Wed Nov 11 2026. No macro, syntax, notation, axiom, sorry.
-/
import Derived.Test.YtfloceoopjokcaaChecked
import GoSem.Claim
import GoSem.ClaimJoined
import GoSem.ClaimMapViews
import Derived.JoinedTies
import Derived.KernelRfl
namespace Go.Proofs.Ytfloceoopjokcaa
/- THE CELL 'sum', in the pinned program and in every row, IS THE sha256 OF THE DUMP (.gsa) THAT YtfloceoopjokcaaProg.lean LOADS. Nothing in Lean hashes anything: it is a label: what it is worth is what the hold of that sum in a sandbox is worth. -/
noncomputable def Try.pinned : Pinned := { name := "ytfloceoopjokcaa", sum := "270740030551a49633bd4d025eb532731ade7805b73d66f8ada20d6a22af4803", checked := Try.checked }
namespace Rows
def none {H : Type} : Left H := { results := [], args := [] }

/-- 'watchkeeperlaw15.BypassPlays': WHATEVER THE INPUT: true; the input reads as it did. -/
def bypassPlaysSpec : ChangeSpec := { name := "bypassPlays", fn := fun _ => fun
  | [d1, d2] => { results := [.lit (.bool true)], args := [d1, d2] }
  | _ => none }
def bypassPlaysRow : OpenClaim := { program := "ytfloceoopjokcaa", sum := "270740030551a49633bd4d025eb532731ade7805b73d66f8ada20d6a22af4803", func := "watchkeeper/watchkeeperlaw15.BypassPlays", spec := "bypassPlays", unfollowed := true, recurses := true, apart := false }
def BypassPlaysSaid : Prop := bypassPlaysRow.holds Try.pinned (OpenSpec.ofChange bypassPlaysSpec)

/-- ITS FALSE NEIGHBOUR: 'it returns false'. Refute it at one input. -/
def bypassPlaysWrong : ChangeSpec := { name := "bypassPlays", fn := fun _ => fun
  | [d1, d2] => { results := [.lit (.bool false)], args := [d1, d2] }
  | _ => none }
def BypassPlaysWrongFalsely : Prop := bypassPlaysRow.holds Try.pinned (OpenSpec.ofChange bypassPlaysWrong)

/-- 'watchkeeperlaw15.BypassLapses': WHATEVER THE INPUT: true; the input reads as it did. -/
def bypassLapsesSpec : ChangeSpec := { name := "bypassLapses", fn := fun _ => fun
  | [d1, d2] => { results := [.lit (.bool true)], args := [d1, d2] }
  | _ => none }
def bypassLapsesRow : OpenClaim := { program := "ytfloceoopjokcaa", sum := "270740030551a49633bd4d025eb532731ade7805b73d66f8ada20d6a22af4803", func := "watchkeeper/watchkeeperlaw15.BypassLapses", spec := "bypassLapses", unfollowed := true, recurses := true, apart := false }
def BypassLapsesSaid : Prop := bypassLapsesRow.holds Try.pinned (OpenSpec.ofChange bypassLapsesSpec)

/-- ITS FALSE NEIGHBOUR: 'it returns false'. Refute it at one input. -/
def bypassLapsesWrong : ChangeSpec := { name := "bypassLapses", fn := fun _ => fun
  | [d1, d2] => { results := [.lit (.bool false)], args := [d1, d2] }
  | _ => none }
def BypassLapsesWrongFalsely : Prop := bypassLapsesRow.holds Try.pinned (OpenSpec.ofChange bypassLapsesWrong)

/-- 'watchkeeperlaw15.BypassApart': WHATEVER THE INPUT: true; the input reads as it did. -/
def bypassApartSpec : ChangeSpec := { name := "bypassApart", fn := fun _ => fun
  | [d1, d2, d3] => { results := [.lit (.bool true)], args := [d1, d2, d3] }
  | _ => none }
def bypassApartRow : OpenClaim := { program := "ytfloceoopjokcaa", sum := "270740030551a49633bd4d025eb532731ade7805b73d66f8ada20d6a22af4803", func := "watchkeeper/watchkeeperlaw15.BypassApart", spec := "bypassApart", unfollowed := true, recurses := true, apart := false }
def BypassApartSaid : Prop := bypassApartRow.holds Try.pinned (OpenSpec.ofChange bypassApartSpec)

/-- ITS FALSE NEIGHBOUR: 'it returns false'. Refute it at one input. -/
def bypassApartWrong : ChangeSpec := { name := "bypassApart", fn := fun _ => fun
  | [d1, d2, d3] => { results := [.lit (.bool false)], args := [d1, d2, d3] }
  | _ => none }
def BypassApartWrongFalsely : Prop := bypassApartRow.holds Try.pinned (OpenSpec.ofChange bypassApartWrong)

/-- 'watchkeeperlaw15.BypassAgain': WHATEVER THE INPUT: true; the input reads as it did. -/
def bypassAgainSpec : ChangeSpec := { name := "bypassAgain", fn := fun _ => fun
  | [d1, d2, d3, d4] => { results := [.lit (.bool true)], args := [d1, d2, d3, d4] }
  | _ => none }
def bypassAgainRow : OpenClaim := { program := "ytfloceoopjokcaa", sum := "270740030551a49633bd4d025eb532731ade7805b73d66f8ada20d6a22af4803", func := "watchkeeper/watchkeeperlaw15.BypassAgain", spec := "bypassAgain", unfollowed := true, recurses := true, apart := false }
def BypassAgainSaid : Prop := bypassAgainRow.holds Try.pinned (OpenSpec.ofChange bypassAgainSpec)

/-- ITS FALSE NEIGHBOUR: 'it returns false'. Refute it at one input. -/
def bypassAgainWrong : ChangeSpec := { name := "bypassAgain", fn := fun _ => fun
  | [d1, d2, d3, d4] => { results := [.lit (.bool false)], args := [d1, d2, d3, d4] }
  | _ => none }
def BypassAgainWrongFalsely : Prop := bypassAgainRow.holds Try.pinned (OpenSpec.ofChange bypassAgainWrong)

/- THE SECOND FORM. 'bulk': how many values and letters a reading holds, each counted each time it is reached (what is shared counts as often as it is met; a slice's spare places count too). A statement '..UptoSaid' is the law's where the arguments, and the package variables that the reading takes, are together of bulk at most 1048576: NARROWER than '..Said'. Prove '..Said' where nothing that the law and all that it calls make is longer than what came in: it says more and counts as full. Else prove '..UptoSaid'. A law counts once. -/
mutual
def uptoBulk {H : Type} : DataW H → Nat
  | .lit (.string bytes) => bytes.length + 1
  | .lit _ => 1
  | .nil => 1
  | .ptr d => uptoBulk d + 1
  | .slice elems spare => uptoBulkAll elems + uptoBulkAll spare + 1
  | .agg parts => uptoBulkAll parts + 1
  | .iface _ d => uptoBulk d + 1
  | .map entries => uptoBulkEntries entries + 1
  | .held _ => 1
def uptoBulkAll {H : Type} : List (DataW H) → Nat
  | [] => 0
  | d :: r => uptoBulk d + uptoBulkAll r
def uptoBulkEntries {H : Type} : List (Lit × DataW H) → Nat
  | [] => 0
  | x :: r => uptoBulkEntry x + uptoBulkEntries r
def uptoBulkEntry {H : Type} : Lit × DataW H → Nat
  | (.string bytes, d) => bytes.length + uptoBulk d + 1
  | (_, d) => uptoBulk d + 1
 end
def uptoSmall : (H : Type) → List (DataW H) → Bool := fun _ ds => decide (uptoBulkAll ds ≤ 1048576)
def OpenSpec.upto (s : _root_.Go.ChangeSpec) : _root_.Go.OpenSpec := { _root_.Go.OpenSpec.ofChange s with cond := some uptoSmall }

/-- 'watchkeeperlaw15.BypassPlays', WHERE WHAT IT READS IS OF BULK AT MOST 1048576: true; the input reads as it did. -/
def bypassPlaysUptoRow : OpenClaim := { program := "ytfloceoopjokcaa", sum := "270740030551a49633bd4d025eb532731ade7805b73d66f8ada20d6a22af4803", func := "watchkeeper/watchkeeperlaw15.BypassPlays", spec := "bypassPlays", unfollowed := true, recurses := true, apart := false, narrowed := true }
def BypassPlaysUptoSaid : Prop := bypassPlaysUptoRow.holds Try.pinned (OpenSpec.upto bypassPlaysSpec)

/-- 'watchkeeperlaw15.BypassLapses', WHERE WHAT IT READS IS OF BULK AT MOST 1048576: true; the input reads as it did. -/
def bypassLapsesUptoRow : OpenClaim := { program := "ytfloceoopjokcaa", sum := "270740030551a49633bd4d025eb532731ade7805b73d66f8ada20d6a22af4803", func := "watchkeeper/watchkeeperlaw15.BypassLapses", spec := "bypassLapses", unfollowed := true, recurses := true, apart := false, narrowed := true }
def BypassLapsesUptoSaid : Prop := bypassLapsesUptoRow.holds Try.pinned (OpenSpec.upto bypassLapsesSpec)

/-- 'watchkeeperlaw15.BypassApart', WHERE WHAT IT READS IS OF BULK AT MOST 1048576: true; the input reads as it did. -/
def bypassApartUptoRow : OpenClaim := { program := "ytfloceoopjokcaa", sum := "270740030551a49633bd4d025eb532731ade7805b73d66f8ada20d6a22af4803", func := "watchkeeper/watchkeeperlaw15.BypassApart", spec := "bypassApart", unfollowed := true, recurses := true, apart := false, narrowed := true }
def BypassApartUptoSaid : Prop := bypassApartUptoRow.holds Try.pinned (OpenSpec.upto bypassApartSpec)

/-- 'watchkeeperlaw15.BypassAgain', WHERE WHAT IT READS IS OF BULK AT MOST 1048576: true; the input reads as it did. -/
def bypassAgainUptoRow : OpenClaim := { program := "ytfloceoopjokcaa", sum := "270740030551a49633bd4d025eb532731ade7805b73d66f8ada20d6a22af4803", func := "watchkeeper/watchkeeperlaw15.BypassAgain", spec := "bypassAgain", unfollowed := true, recurses := true, apart := false, narrowed := true }
def BypassAgainUptoSaid : Prop := bypassAgainUptoRow.holds Try.pinned (OpenSpec.upto bypassAgainSpec)

end Rows
end Go.Proofs.Ytfloceoopjokcaa
