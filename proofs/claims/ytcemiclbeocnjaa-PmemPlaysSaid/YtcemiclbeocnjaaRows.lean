/-
  No cell of these rows narrows 'for every input' (looked for: loops, veiled, ifaces, maps, wideKeys, modest, calm, conditions, laid).
  DERIVED. THE GIVEN ROWS OF THIS SEAT. 8 by the template 'for every input the law returns true; each argument reads behind the call as it read before'; 0 by the template 'total and deterministic' (their statements: YtcemiclbeocnjaaTotals.lean).
  GIVEN WITH THE SEED: the statements are not yours to turn. If you find one false, say at which input.
  Laid BY PROGRAM, IN A SANDBOX (cutbox-rows.mjs): the forced cells as the released guide's own fill.sh prints them over the translation c7b49bb125133bd0… (all of the seat's roots in one cut). By AI agents, Wed Nov 11 2026. No macro, syntax, notation, axiom, sorry.
-/
import Derived.Test.YtcemiclbeocnjaaChecked
import GoSem.Claim
import GoSem.ClaimJoined
import GoSem.ClaimMapViews
import Derived.JoinedTies
import Derived.KernelRfl
namespace Go.Proofs.Ytcemiclbeocnjaa
/- THE CELL 'sum', in the pinned program and in every row, IS THE sha256 OF THE DUMP (.gsa) THAT YtcemiclbeocnjaaProg.lean LOADS. Nothing in Lean hashes anything: it is a label: what it is worth is what the hold of that sum in a sandbox is worth. -/
noncomputable def Try.pinned : Pinned := { name := "ytcemiclbeocnjaa", sum := "c7b49bb125133bd0320c379fa7aba403902cf3eab4a4cb65e2eeb1d2ee4151f0", checked := Try.checked }
namespace Rows
def none {H : Type} : Left H := { results := [], args := [] }

/-- 'lockfastlaw03.PmemPlays': WHATEVER THE INPUT: true; the input reads as it did. -/
def pmemPlaysSpec : ChangeSpec := { name := "pmemPlays", fn := fun _ => fun
  | [d1, d2] => { results := [.lit (.bool true)], args := [d1, d2] }
  | _ => none }
def pmemPlaysRow : OpenClaim := { program := "ytcemiclbeocnjaa", sum := "c7b49bb125133bd0320c379fa7aba403902cf3eab4a4cb65e2eeb1d2ee4151f0", func := "lockfast/lockfastlaw03.PmemPlays", spec := "pmemPlays", unfollowed := true, recurses := true, apart := false }
def PmemPlaysSaid : Prop := pmemPlaysRow.holds Try.pinned (OpenSpec.ofChange pmemPlaysSpec)

/-- ITS FALSE NEIGHBOUR: 'it returns false'. Refute it at one input. -/
def pmemPlaysWrong : ChangeSpec := { name := "pmemPlays", fn := fun _ => fun
  | [d1, d2] => { results := [.lit (.bool false)], args := [d1, d2] }
  | _ => none }
def PmemPlaysWrongFalsely : Prop := pmemPlaysRow.holds Try.pinned (OpenSpec.ofChange pmemPlaysWrong)

/-- 'lockfastlaw03.PmemNew': WHATEVER THE INPUT: true; the input reads as it did. -/
def pmemNewSpec : ChangeSpec := { name := "pmemNew", fn := fun _ => fun
  | [d1, d2] => { results := [.lit (.bool true)], args := [d1, d2] }
  | _ => none }
def pmemNewRow : OpenClaim := { program := "ytcemiclbeocnjaa", sum := "c7b49bb125133bd0320c379fa7aba403902cf3eab4a4cb65e2eeb1d2ee4151f0", func := "lockfast/lockfastlaw03.PmemNew", spec := "pmemNew", unfollowed := true, recurses := true, apart := false }
def PmemNewSaid : Prop := pmemNewRow.holds Try.pinned (OpenSpec.ofChange pmemNewSpec)

/-- ITS FALSE NEIGHBOUR: 'it returns false'. Refute it at one input. -/
def pmemNewWrong : ChangeSpec := { name := "pmemNew", fn := fun _ => fun
  | [d1, d2] => { results := [.lit (.bool false)], args := [d1, d2] }
  | _ => none }
def PmemNewWrongFalsely : Prop := pmemNewRow.holds Try.pinned (OpenSpec.ofChange pmemNewWrong)

/-- 'lockfastlaw03.PmemOwn': WHATEVER THE INPUT: true; the input reads as it did. -/
def pmemOwnSpec : ChangeSpec := { name := "pmemOwn", fn := fun _ => fun
  | [d1, d2, d3] => { results := [.lit (.bool true)], args := [d1, d2, d3] }
  | _ => none }
def pmemOwnRow : OpenClaim := { program := "ytcemiclbeocnjaa", sum := "c7b49bb125133bd0320c379fa7aba403902cf3eab4a4cb65e2eeb1d2ee4151f0", func := "lockfast/lockfastlaw03.PmemOwn", spec := "pmemOwn", unfollowed := true, recurses := true, apart := false }
def PmemOwnSaid : Prop := pmemOwnRow.holds Try.pinned (OpenSpec.ofChange pmemOwnSpec)

/-- ITS FALSE NEIGHBOUR: 'it returns false'. Refute it at one input. -/
def pmemOwnWrong : ChangeSpec := { name := "pmemOwn", fn := fun _ => fun
  | [d1, d2, d3] => { results := [.lit (.bool false)], args := [d1, d2, d3] }
  | _ => none }
def PmemOwnWrongFalsely : Prop := pmemOwnRow.holds Try.pinned (OpenSpec.ofChange pmemOwnWrong)

/-- 'lockfastlaw20.TxPlays': WHATEVER THE INPUT: true; the input reads as it did. -/
def txPlaysSpec : ChangeSpec := { name := "txPlays", fn := fun _ => fun
  | [d] => { results := [.lit (.bool true)], args := [d] }
  | _ => none }
def txPlaysRow : OpenClaim := { program := "ytcemiclbeocnjaa", sum := "c7b49bb125133bd0320c379fa7aba403902cf3eab4a4cb65e2eeb1d2ee4151f0", func := "lockfast/lockfastlaw20.TxPlays", spec := "txPlays", unfollowed := true, recurses := true, apart := false }
def TxPlaysSaid : Prop := txPlaysRow.holds Try.pinned (OpenSpec.ofChange txPlaysSpec)

/-- ITS FALSE NEIGHBOUR: 'it returns false'. Refute it at one input. -/
def txPlaysWrong : ChangeSpec := { name := "txPlays", fn := fun _ => fun
  | [d] => { results := [.lit (.bool false)], args := [d] }
  | _ => none }
def TxPlaysWrongFalsely : Prop := txPlaysRow.holds Try.pinned (OpenSpec.ofChange txPlaysWrong)

/-- 'lockfastlaw20.TxNotes': WHATEVER THE INPUT: true; the input reads as it did. -/
def txNotesSpec : ChangeSpec := { name := "txNotes", fn := fun _ => fun
  | [d1, d2] => { results := [.lit (.bool true)], args := [d1, d2] }
  | _ => none }
def txNotesRow : OpenClaim := { program := "ytcemiclbeocnjaa", sum := "c7b49bb125133bd0320c379fa7aba403902cf3eab4a4cb65e2eeb1d2ee4151f0", func := "lockfast/lockfastlaw20.TxNotes", spec := "txNotes", unfollowed := true, recurses := true, apart := false }
def TxNotesSaid : Prop := txNotesRow.holds Try.pinned (OpenSpec.ofChange txNotesSpec)

/-- ITS FALSE NEIGHBOUR: 'it returns false'. Refute it at one input. -/
def txNotesWrong : ChangeSpec := { name := "txNotes", fn := fun _ => fun
  | [d1, d2] => { results := [.lit (.bool false)], args := [d1, d2] }
  | _ => none }
def TxNotesWrongFalsely : Prop := txNotesRow.holds Try.pinned (OpenSpec.ofChange txNotesWrong)

/-- 'lockfastlaw20.TxFresh': WHATEVER THE INPUT: true; the input reads as it did. -/
def txFreshSpec : ChangeSpec := { name := "txFresh", fn := fun _ => fun
  | [d1, d2] => { results := [.lit (.bool true)], args := [d1, d2] }
  | _ => none }
def txFreshRow : OpenClaim := { program := "ytcemiclbeocnjaa", sum := "c7b49bb125133bd0320c379fa7aba403902cf3eab4a4cb65e2eeb1d2ee4151f0", func := "lockfast/lockfastlaw20.TxFresh", spec := "txFresh", unfollowed := true, recurses := true, apart := false }
def TxFreshSaid : Prop := txFreshRow.holds Try.pinned (OpenSpec.ofChange txFreshSpec)

/-- ITS FALSE NEIGHBOUR: 'it returns false'. Refute it at one input. -/
def txFreshWrong : ChangeSpec := { name := "txFresh", fn := fun _ => fun
  | [d1, d2] => { results := [.lit (.bool false)], args := [d1, d2] }
  | _ => none }
def TxFreshWrongFalsely : Prop := txFreshRow.holds Try.pinned (OpenSpec.ofChange txFreshWrong)

/-- 'lockfastlaw20.TxOwn': WHATEVER THE INPUT: true; the input reads as it did. -/
def txOwnSpec : ChangeSpec := { name := "txOwn", fn := fun _ => fun
  | [d] => { results := [.lit (.bool true)], args := [d] }
  | _ => none }
def txOwnRow : OpenClaim := { program := "ytcemiclbeocnjaa", sum := "c7b49bb125133bd0320c379fa7aba403902cf3eab4a4cb65e2eeb1d2ee4151f0", func := "lockfast/lockfastlaw20.TxOwn", spec := "txOwn", unfollowed := true, recurses := true, apart := false }
def TxOwnSaid : Prop := txOwnRow.holds Try.pinned (OpenSpec.ofChange txOwnSpec)

/-- ITS FALSE NEIGHBOUR: 'it returns false'. Refute it at one input. -/
def txOwnWrong : ChangeSpec := { name := "txOwn", fn := fun _ => fun
  | [d] => { results := [.lit (.bool false)], args := [d] }
  | _ => none }
def TxOwnWrongFalsely : Prop := txOwnRow.holds Try.pinned (OpenSpec.ofChange txOwnWrong)

/-- 'lockfastlaw20.TxDeep': WHATEVER THE INPUT: true; the input reads as it did. -/
def txDeepSpec : ChangeSpec := { name := "txDeep", fn := fun _ => fun
  | [d] => { results := [.lit (.bool true)], args := [d] }
  | _ => none }
def txDeepRow : OpenClaim := { program := "ytcemiclbeocnjaa", sum := "c7b49bb125133bd0320c379fa7aba403902cf3eab4a4cb65e2eeb1d2ee4151f0", func := "lockfast/lockfastlaw20.TxDeep", spec := "txDeep", unfollowed := true, recurses := true, apart := false }
def TxDeepSaid : Prop := txDeepRow.holds Try.pinned (OpenSpec.ofChange txDeepSpec)

/-- ITS FALSE NEIGHBOUR: 'it returns false'. Refute it at one input. -/
def txDeepWrong : ChangeSpec := { name := "txDeep", fn := fun _ => fun
  | [d] => { results := [.lit (.bool false)], args := [d] }
  | _ => none }
def TxDeepWrongFalsely : Prop := txDeepRow.holds Try.pinned (OpenSpec.ofChange txDeepWrong)

/- THE SECOND FORM. 'bulk': how many values and letters a reading holds, each counted each time it is reached (what is shared counts as often as it is met; a slice's spare places count too). A statement '..UptoSaid' is the law's where the arguments, and the package variables that the reading takes, are together of bulk at most 1048576: NARROWER than '..Said'. Prove '..Said' where nothing that the law and all that it calls make is longer than what came in: it says more and counts as full. Else prove '..UptoSaid'. A law counts once. -/
mutual
def uptoBulk {H : Type} : DataW H → Nat
  | .lit (.string bytes) => bytes.length + 1
  | .lit _ => 1
  | .nil => 1
  | .ptr d => uptoBulk d + 1
  | .slice elems spare => uptoBulkAll elems + uptoBulkAll spare + 1
  | .agg parts => uptoBulkAll parts + 1
  | .iface _ d => uptoBulk d + 1
  | .map entries => uptoBulkEntries entries + 1
  | .held _ => 1
def uptoBulkAll {H : Type} : List (DataW H) → Nat
  | [] => 0
  | d :: r => uptoBulk d + uptoBulkAll r
def uptoBulkEntries {H : Type} : List (Lit × DataW H) → Nat
  | [] => 0
  | x :: r => uptoBulkEntry x + uptoBulkEntries r
def uptoBulkEntry {H : Type} : Lit × DataW H → Nat
  | (.string bytes, d) => bytes.length + uptoBulk d + 1
  | (_, d) => uptoBulk d + 1
 end
def uptoSmall : (H : Type) → List (DataW H) → Bool := fun _ ds => decide (uptoBulkAll ds ≤ 1048576)
def OpenSpec.upto (s : _root_.Go.ChangeSpec) : _root_.Go.OpenSpec := { _root_.Go.OpenSpec.ofChange s with cond := some uptoSmall }

/-- 'lockfastlaw03.PmemPlays', WHERE WHAT IT READS IS OF BULK AT MOST 1048576: true; the input reads as it did. -/
def pmemPlaysUptoRow : OpenClaim := { program := "ytcemiclbeocnjaa", sum := "c7b49bb125133bd0320c379fa7aba403902cf3eab4a4cb65e2eeb1d2ee4151f0", func := "lockfast/lockfastlaw03.PmemPlays", spec := "pmemPlays", unfollowed := true, recurses := true, apart := false, narrowed := true }
def PmemPlaysUptoSaid : Prop := pmemPlaysUptoRow.holds Try.pinned (OpenSpec.upto pmemPlaysSpec)

/-- 'lockfastlaw03.PmemNew', WHERE WHAT IT READS IS OF BULK AT MOST 1048576: true; the input reads as it did. -/
def pmemNewUptoRow : OpenClaim := { program := "ytcemiclbeocnjaa", sum := "c7b49bb125133bd0320c379fa7aba403902cf3eab4a4cb65e2eeb1d2ee4151f0", func := "lockfast/lockfastlaw03.PmemNew", spec := "pmemNew", unfollowed := true, recurses := true, apart := false, narrowed := true }
def PmemNewUptoSaid : Prop := pmemNewUptoRow.holds Try.pinned (OpenSpec.upto pmemNewSpec)

/-- 'lockfastlaw03.PmemOwn', WHERE WHAT IT READS IS OF BULK AT MOST 1048576: true; the input reads as it did. -/
def pmemOwnUptoRow : OpenClaim := { program := "ytcemiclbeocnjaa", sum := "c7b49bb125133bd0320c379fa7aba403902cf3eab4a4cb65e2eeb1d2ee4151f0", func := "lockfast/lockfastlaw03.PmemOwn", spec := "pmemOwn", unfollowed := true, recurses := true, apart := false, narrowed := true }
def PmemOwnUptoSaid : Prop := pmemOwnUptoRow.holds Try.pinned (OpenSpec.upto pmemOwnSpec)

/-- 'lockfastlaw20.TxPlays', WHERE WHAT IT READS IS OF BULK AT MOST 1048576: true; the input reads as it did. -/
def txPlaysUptoRow : OpenClaim := { program := "ytcemiclbeocnjaa", sum := "c7b49bb125133bd0320c379fa7aba403902cf3eab4a4cb65e2eeb1d2ee4151f0", func := "lockfast/lockfastlaw20.TxPlays", spec := "txPlays", unfollowed := true, recurses := true, apart := false, narrowed := true }
def TxPlaysUptoSaid : Prop := txPlaysUptoRow.holds Try.pinned (OpenSpec.upto txPlaysSpec)

/-- 'lockfastlaw20.TxNotes', WHERE WHAT IT READS IS OF BULK AT MOST 1048576: true; the input reads as it did. -/
def txNotesUptoRow : OpenClaim := { program := "ytcemiclbeocnjaa", sum := "c7b49bb125133bd0320c379fa7aba403902cf3eab4a4cb65e2eeb1d2ee4151f0", func := "lockfast/lockfastlaw20.TxNotes", spec := "txNotes", unfollowed := true, recurses := true, apart := false, narrowed := true }
def TxNotesUptoSaid : Prop := txNotesUptoRow.holds Try.pinned (OpenSpec.upto txNotesSpec)

/-- 'lockfastlaw20.TxFresh', WHERE WHAT IT READS IS OF BULK AT MOST 1048576: true; the input reads as it did. -/
def txFreshUptoRow : OpenClaim := { program := "ytcemiclbeocnjaa", sum := "c7b49bb125133bd0320c379fa7aba403902cf3eab4a4cb65e2eeb1d2ee4151f0", func := "lockfast/lockfastlaw20.TxFresh", spec := "txFresh", unfollowed := true, recurses := true, apart := false, narrowed := true }
def TxFreshUptoSaid : Prop := txFreshUptoRow.holds Try.pinned (OpenSpec.upto txFreshSpec)

/-- 'lockfastlaw20.TxOwn', WHERE WHAT IT READS IS OF BULK AT MOST 1048576: true; the input reads as it did. -/
def txOwnUptoRow : OpenClaim := { program := "ytcemiclbeocnjaa", sum := "c7b49bb125133bd0320c379fa7aba403902cf3eab4a4cb65e2eeb1d2ee4151f0", func := "lockfast/lockfastlaw20.TxOwn", spec := "txOwn", unfollowed := true, recurses := true, apart := false, narrowed := true }
def TxOwnUptoSaid : Prop := txOwnUptoRow.holds Try.pinned (OpenSpec.upto txOwnSpec)

/-- 'lockfastlaw20.TxDeep', WHERE WHAT IT READS IS OF BULK AT MOST 1048576: true; the input reads as it did. -/
def txDeepUptoRow : OpenClaim := { program := "ytcemiclbeocnjaa", sum := "c7b49bb125133bd0320c379fa7aba403902cf3eab4a4cb65e2eeb1d2ee4151f0", func := "lockfast/lockfastlaw20.TxDeep", spec := "txDeep", unfollowed := true, recurses := true, apart := false, narrowed := true }
def TxDeepUptoSaid : Prop := txDeepUptoRow.holds Try.pinned (OpenSpec.upto txDeepSpec)

end Rows
end Go.Proofs.Ytcemiclbeocnjaa
