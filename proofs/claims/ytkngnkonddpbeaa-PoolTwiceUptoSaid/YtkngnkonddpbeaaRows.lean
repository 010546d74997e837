/-
  NARROWER THAN 'FOR EVERY INPUT', by the rows' own cells (each row's printed sentence says how): PoolAsks: loops · PoolLikes: loops · PoolTwice: loops.
  DERIVED. THE GIVEN ROWS OF THIS SEAT. 3 by the template 'for every input the law returns true; each argument reads behind the call as it read before'; 0 by the template 'total and deterministic' (their statements: YtkngnkonddpbeaaTotals.lean).
  GIVEN WITH THE SEED: the statements are not yours to turn. If you find one false, say at which input.
  Laid BY PROGRAM, IN A SANDBOX (cutbox-rows.mjs): the forced cells as the released guide's own fill.sh prints them over the translation 2865c62a558e408a… (all of the seat's roots in one cut). By AI agents, Wed Nov 11 2026. No macro, syntax, notation, axiom, sorry.
-/
import Derived.Test.YtkngnkonddpbeaaChecked
import GoSem.Claim
import GoSem.ClaimJoined
import GoSem.ClaimMapViews
import Derived.JoinedTies
import Derived.KernelRfl
namespace Go.Proofs.Ytkngnkonddpbeaa
/- THE CELL 'sum', in the pinned program and in every row, IS THE sha256 OF THE DUMP (.gsa) THAT YtkngnkonddpbeaaProg.lean LOADS. Nothing in Lean hashes anything: it is a label: what it is worth is what the hold of that sum in a sandbox is worth. -/
noncomputable def Try.pinned : Pinned := { name := "ytkngnkonddpbeaa", sum := "2865c62a558e408a436d9980f2991e7ec2fa6d424cebb5e2c5ca84f21f695a7e", checked := Try.checked }
namespace Rows
def none {H : Type} : Left H := { results := [], args := [] }

/-- 'galleylaw11.PoolAsks': WHATEVER THE INPUT: true; the input reads as it did. -/
def poolAsksSpec : ChangeSpec := { name := "poolAsks", fn := fun _ => fun
  | [d] => { results := [.lit (.bool true)], args := [d] }
  | _ => none }
def poolAsksRow : OpenClaim := { program := "ytkngnkonddpbeaa", sum := "2865c62a558e408a436d9980f2991e7ec2fa6d424cebb5e2c5ca84f21f695a7e", func := "galley/galleylaw11.PoolAsks", spec := "poolAsks", recurses := true, loops := true, plainKeys := false, apart := false }
def PoolAsksSaid : Prop := poolAsksRow.holds Try.pinned (OpenSpec.ofChange poolAsksSpec)

/-- ITS FALSE NEIGHBOUR: 'it returns false'. Refute it at one input. -/
def poolAsksWrong : ChangeSpec := { name := "poolAsks", fn := fun _ => fun
  | [d] => { results := [.lit (.bool false)], args := [d] }
  | _ => none }
def PoolAsksWrongFalsely : Prop := poolAsksRow.holds Try.pinned (OpenSpec.ofChange poolAsksWrong)

/-- 'galleylaw11.PoolLikes': WHATEVER THE INPUT: true; the input reads as it did. -/
def poolLikesSpec : ChangeSpec := { name := "poolLikes", fn := fun _ => fun
  | [d1, d2] => { results := [.lit (.bool true)], args := [d1, d2] }
  | _ => none }
def poolLikesRow : OpenClaim := { program := "ytkngnkonddpbeaa", sum := "2865c62a558e408a436d9980f2991e7ec2fa6d424cebb5e2c5ca84f21f695a7e", func := "galley/galleylaw11.PoolLikes", spec := "poolLikes", recurses := true, loops := true, plainKeys := false, apart := false }
def PoolLikesSaid : Prop := poolLikesRow.holds Try.pinned (OpenSpec.ofChange poolLikesSpec)

/-- ITS FALSE NEIGHBOUR: 'it returns false'. Refute it at one input. -/
def poolLikesWrong : ChangeSpec := { name := "poolLikes", fn := fun _ => fun
  | [d1, d2] => { results := [.lit (.bool false)], args := [d1, d2] }
  | _ => none }
def PoolLikesWrongFalsely : Prop := poolLikesRow.holds Try.pinned (OpenSpec.ofChange poolLikesWrong)

/-- 'galleylaw11.PoolTwice': WHATEVER THE INPUT: true; the input reads as it did. -/
def poolTwiceSpec : ChangeSpec := { name := "poolTwice", fn := fun _ => fun
  | [d] => { results := [.lit (.bool true)], args := [d] }
  | _ => none }
def poolTwiceRow : OpenClaim := { program := "ytkngnkonddpbeaa", sum := "2865c62a558e408a436d9980f2991e7ec2fa6d424cebb5e2c5ca84f21f695a7e", func := "galley/galleylaw11.PoolTwice", spec := "poolTwice", recurses := true, loops := true, plainKeys := false, apart := false }
def PoolTwiceSaid : Prop := poolTwiceRow.holds Try.pinned (OpenSpec.ofChange poolTwiceSpec)

/-- ITS FALSE NEIGHBOUR: 'it returns false'. Refute it at one input. -/
def poolTwiceWrong : ChangeSpec := { name := "poolTwice", fn := fun _ => fun
  | [d] => { results := [.lit (.bool false)], args := [d] }
  | _ => none }
def PoolTwiceWrongFalsely : Prop := poolTwiceRow.holds Try.pinned (OpenSpec.ofChange poolTwiceWrong)

/- THE SECOND FORM. 'bulk': how many values and letters a reading holds, each counted each time it is reached (what is shared counts as often as it is met; a slice's spare places count too). A statement '..UptoSaid' is the law's where the arguments, and the package variables that the reading takes, are together of bulk at most 1048576: NARROWER than '..Said'. Prove '..Said' where nothing that the law and all that it calls make is longer than what came in: it says more and counts as full. Else prove '..UptoSaid'. A law counts once. -/
mutual
def uptoBulk {H : Type} : DataW H → Nat
  | .lit (.string bytes) => bytes.length + 1
  | .lit _ => 1
  | .nil => 1
  | .ptr d => uptoBulk d + 1
  | .slice elems spare => uptoBulkAll elems + uptoBulkAll spare + 1
  | .agg parts => uptoBulkAll parts + 1
  | .iface _ d => uptoBulk d + 1
  | .map entries => uptoBulkEntries entries + 1
  | .held _ => 1
def uptoBulkAll {H : Type} : List (DataW H) → Nat
  | [] => 0
  | d :: r => uptoBulk d + uptoBulkAll r
def uptoBulkEntries {H : Type} : List (Lit × DataW H) → Nat
  | [] => 0
  | x :: r => uptoBulkEntry x + uptoBulkEntries r
def uptoBulkEntry {H : Type} : Lit × DataW H → Nat
  | (.string bytes, d) => bytes.length + uptoBulk d + 1
  | (_, d) => uptoBulk d + 1
 end
def uptoSmall : (H : Type) → List (DataW H) → Bool := fun _ ds => decide (uptoBulkAll ds ≤ 1048576)
def OpenSpec.upto (s : _root_.Go.ChangeSpec) : _root_.Go.OpenSpec := { _root_.Go.OpenSpec.ofChange s with cond := some uptoSmall }

/-- 'galleylaw11.PoolAsks', WHERE WHAT IT READS IS OF BULK AT MOST 1048576: true; the input reads as it did. -/
def poolAsksUptoRow : OpenClaim := { program := "ytkngnkonddpbeaa", sum := "2865c62a558e408a436d9980f2991e7ec2fa6d424cebb5e2c5ca84f21f695a7e", func := "galley/galleylaw11.PoolAsks", spec := "poolAsks", recurses := true, loops := true, plainKeys := false, apart := false, narrowed := true }
def PoolAsksUptoSaid : Prop := poolAsksUptoRow.holds Try.pinned (OpenSpec.upto poolAsksSpec)

/-- 'galleylaw11.PoolLikes', WHERE WHAT IT READS IS OF BULK AT MOST 1048576: true; the input reads as it did. -/
def poolLikesUptoRow : OpenClaim := { program := "ytkngnkonddpbeaa", sum := "2865c62a558e408a436d9980f2991e7ec2fa6d424cebb5e2c5ca84f21f695a7e", func := "galley/galleylaw11.PoolLikes", spec := "poolLikes", recurses := true, loops := true, plainKeys := false, apart := false, narrowed := true }
def PoolLikesUptoSaid : Prop := poolLikesUptoRow.holds Try.pinned (OpenSpec.upto poolLikesSpec)

/-- 'galleylaw11.PoolTwice', WHERE WHAT IT READS IS OF BULK AT MOST 1048576: true; the input reads as it did. -/
def poolTwiceUptoRow : OpenClaim := { program := "ytkngnkonddpbeaa", sum := "2865c62a558e408a436d9980f2991e7ec2fa6d424cebb5e2c5ca84f21f695a7e", func := "galley/galleylaw11.PoolTwice", spec := "poolTwice", recurses := true, loops := true, plainKeys := false, apart := false, narrowed := true }
def PoolTwiceUptoSaid : Prop := poolTwiceUptoRow.holds Try.pinned (OpenSpec.upto poolTwiceSpec)

end Rows
end Go.Proofs.Ytkngnkonddpbeaa
