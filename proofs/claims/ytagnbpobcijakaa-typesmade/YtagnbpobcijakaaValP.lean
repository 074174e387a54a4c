/-
 Plain facts on values (no program in it): an order of plain values and of sets of them, and sets made by laying one after the other in its place.
-/
import Derived.Test.YtagnbpobcijakaaProg
import Derived.Sort.Walk0
namespace Go.Proofs.Ytagnbpobcijakaa
open Go

/-- A strict order in which of two unlike ones one is less. -/
structure Sto {α : Type} (lt : α → α → Bool) : Prop where
 irr : ∀ a, lt a a = false
 trans : ∀ a b c, lt a b = true → lt b c = true → lt a c = true
 tri : ∀ a b, lt a b = true ∨ a = b ∨ lt b a = true

namespace Sto
variable {α : Type} {lt : α → α → Bool}
end Sto

section sets
variable {α : Type} (lt : α → α → Bool)

/-- One more, in its place; nothing where it is there. -/
def ins (x : α) : List α → List α
 | [] => [x]
 | y :: l => if lt y x then y :: ins x l else if lt x y then x :: y :: l else y :: l

def setOf (l : List α) : List α := l.foldl (fun acc x => ins lt x acc) []

def Rising (l : List α) : Prop := l.Pairwise fun a b => lt a b = true

variable {lt}
end sets

section lists
variable {α : Type} (lt : α → α → Bool)
/-- One by one, a front ahead of the longer one. -/
def lexL : List α → List α → Bool
 | [], [] => false
 | [], _ :: _ => true
 | _ :: _, [] => false
 | x :: a, y :: b => if lt x y then true else if lt y x then false else lexL a b
variable {lt}
end lists

/-- Plain values. -/
inductive PV where
 | bool (b : Bool)
 | long (n : Int)
 | str (s : List UInt8)
 | uid (t i : List UInt8)
 deriving DecidableEq

def PV.kind : PV → Nat
 | .bool _ => 1
 | .long _ => 2
 | .str _ => 3
 | .uid _ _ => 4

def lessP : PV → PV → Bool
 | .bool x, .bool y => !x && y
 | .long x, .long y => decide (x < y)
 | .str x, .str y => decide (x < y)
 | .uid t i, .uid u j => if t = u then decide (i < j) else decide (t < u)
 | a, b => decide (a.kind < b.kind)

theorem bytes_irr (a : List UInt8) : ¬ a < a := List.lt_irrefl a
theorem bytes_trans {a b c : List UInt8} (h1 : a < b) (h2 : b < c) : a < c := List.lt_trans h1 h2
/-- Values such as may be. -/
inductive GV where
 | pl (p : PV)
 | set (l : List PV)

def lessG : GV → GV → Bool
 | .pl a, .pl b => lessP a b
 | .pl _, .set _ => true
 | .set _, .pl _ => false
 | .set a, .set b => lexL lessP a b

end Go.Proofs.Ytagnbpobcijakaa
