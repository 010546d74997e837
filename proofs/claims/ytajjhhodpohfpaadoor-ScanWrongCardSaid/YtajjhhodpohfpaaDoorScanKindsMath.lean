/-
  What is scanned of some known texts: each kind's tokens; what is no token.
-/
import Derived.Test.YtajjhhodpohfpaaDoorScanTolds
namespace Go.Proofs.YtajjhhodpohfpaaDoor
open Go.RowKit Go.PlainAid

def kts : List (List UInt8) := [[102, 111, 111], [102, 111, 111, 64, 49], [39, 97, 32, 98, 39], [39, 92, 39, 39], [88], [95], [95, 89, 49], [49], [49, 95, 48, 48, 48], [49, 54, 35, 102, 102], [49, 46, 53], [50, 46, 48, 101, 45, 49, 48], [36, 97], [36, 92, 110], [36, 92, 120, 123, 52, 49, 125], [36, 37], [34, 34], [34, 97, 92, 34, 98, 34], [63, 77], [63, 95, 109], [63, 63, 88], [101, 110, 100], [111, 114, 101, 108, 115, 101], [99, 97, 115, 101], [61, 58, 61], [60, 60], [46], [35], [37, 99]]
def kks : List Int := [1, 1, 1, 1, 2, 2, 2, 3, 3, 3, 4, 4, 5, 5, 5, 5, 6, 6, 7, 7, 7, 8, 8, 8, 9, 9, 10, 9, 11]
def kt (i : Nat) : ByteArray := ⟨(kts.getD i []).toArray⟩
def kk (i : Nat) : Int := kks.getD i 0
theorem kinds_all : ∀ i : Fin 28, ∀ k : Fin 29, scanF ((kt i.val ++ ⟨#[32]⟩) ++ kt k.val) = ([(kk i.val, 0, (kt i.val).size), (kk k.val, (kt i.val).size + 1, (kt i.val).size + 1 + (kt k.val).size)], 0) := by decide +kernel
def bds : List (List UInt8) := [[39], [39, 97], [34, 97], [39, 97, 10, 98, 39], [36], [36, 32], [36, 10], [36, 92], [36, 92, 120, 52], [63], [63, 63], [63, 49], [49, 35], [49, 95], [49, 97], [49, 46, 53, 120], [51, 55, 35, 97], [50, 35, 50], [64], [126], [195, 169], [1], [127], [38], [94], [92], [96], [36, 92, 120, 123, 49, 49, 48, 48, 48, 48, 125]]
def gds : List (List UInt8) := [[], [97, 32], [88, 44, 32], [49, 32], [34, 115, 34, 32], [36, 97, 32], [46, 32], [37, 99, 10]]
def bd6 (i : Nat) : ByteArray := ⟨(bds.getD i []).toArray⟩
def gd6 (i : Nat) : ByteArray := ⟨(gds.getD i []).toArray⟩
theorem wrong_all : ∀ i : Fin 8, ∀ k : Fin 28, scanF (gd6 i.val ++ bd6 k.val) = ([], 4) := by decide +kernel
end Go.Proofs.YtajjhhodpohfpaaDoor
