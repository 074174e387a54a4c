/-
  Plain: texts of deep trees, and how they are read (no program in it).
  Plain: deep trees, read (reckoned by the kernel).
  Plain: deep trees, read (reckoned by the kernel).
  Plain: deep trees, read (reckoned by the kernel).
  Plain: deep trees, read (reckoned by the kernel).
  Plain: deep trees, read (reckoned by the kernel).
  Plain: deep trees, read (reckoned by the kernel).
  Plain: deep trees, read (reckoned by the kernel).
  Plain: deep trees, read (reckoned by the kernel).
-/
import Derived.Test.YtlakgnnjokienaaGreatDoorPlA
namespace Go.Proofs.YtlakgnnjokienaaGreatDoor
open Go

def dBase (h : Nat) : List UInt8 := if h = 1 ∨ h = 2 then cTrue else [49]
def dStep (h : Nat) (s : List UInt8) : List UInt8 :=
  if h = 0 then s ++ [32, 45, 32, 49] else if h = 1 then [33] ++ s else if h = 2 then [105, 102, 32, 116, 114, 117, 101, 32, 116, 104, 101, 110, 32] ++ s ++ [32, 101, 108, 115, 101, 32, 102, 97, 108, 115, 101] else [91] ++ s ++ [93]
def dText (h : Nat) : Nat → List UInt8
  | 0 => dBase h
  | n + 1 => dStep h (dText h n)
def dBr (s : List UInt8) : Nat → List UInt8
  | 0 => s
  | m + 1 => [40] ++ dBr s m ++ [41]
/-- The text of a tree n + 1 deep, in m brackets, is read as the document says. -/
def dOk (h n m : Nat) : Bool := mildB (dBr (dText h n) m) && (if 10 ≤ n then decide ((parseE (dBr (dText h n) m)).2 = 14) else decide ((parseE (dBr (dText h n) m)).2 = 0) && decide (depE (parseE (dBr (dText h n) m)).1 = n + 1) && okB (parseE (dBr (dText h n) m)).1)
def dAll (h n : Nat) : Bool := (List.range 30).all fun m => dOk h n m
end Go.Proofs.YtlakgnnjokienaaGreatDoor

namespace Go.Proofs.YtlakgnnjokienaaGreatDoor
open Go
theorem dk0_0 : dAll 0 0 = true := by kernel_rfl
theorem dk0_1 : dAll 0 1 = true := by kernel_rfl
theorem dk0_2 : dAll 0 2 = true := by kernel_rfl
theorem dk0_3 : dAll 0 3 = true := by kernel_rfl
theorem dk0_4 : dAll 0 4 = true := by kernel_rfl
end Go.Proofs.YtlakgnnjokienaaGreatDoor

namespace Go.Proofs.YtlakgnnjokienaaGreatDoor
open Go
theorem dk0_5 : dAll 0 5 = true := by kernel_rfl
theorem dk0_6 : dAll 0 6 = true := by kernel_rfl
theorem dk0_7 : dAll 0 7 = true := by kernel_rfl
theorem dk0_8 : dAll 0 8 = true := by kernel_rfl
end Go.Proofs.YtlakgnnjokienaaGreatDoor

namespace Go.Proofs.YtlakgnnjokienaaGreatDoor
open Go
theorem dk0_9 : dAll 0 9 = true := by kernel_rfl
theorem dk0_10 : dAll 0 10 = true := by kernel_rfl
end Go.Proofs.YtlakgnnjokienaaGreatDoor

namespace Go.Proofs.YtlakgnnjokienaaGreatDoor
open Go
theorem dk0_11 : dAll 0 11 = true := by kernel_rfl
theorem dk0_12 : dAll 0 12 = true := by kernel_rfl
end Go.Proofs.YtlakgnnjokienaaGreatDoor

namespace Go.Proofs.YtlakgnnjokienaaGreatDoor
open Go
theorem dk1_0 : dAll 1 0 = true := by kernel_rfl
theorem dk1_1 : dAll 1 1 = true := by kernel_rfl
theorem dk1_2 : dAll 1 2 = true := by kernel_rfl
theorem dk1_3 : dAll 1 3 = true := by kernel_rfl
theorem dk1_4 : dAll 1 4 = true := by kernel_rfl
end Go.Proofs.YtlakgnnjokienaaGreatDoor

namespace Go.Proofs.YtlakgnnjokienaaGreatDoor
open Go
theorem dk1_5 : dAll 1 5 = true := by kernel_rfl
theorem dk1_6 : dAll 1 6 = true := by kernel_rfl
theorem dk1_7 : dAll 1 7 = true := by kernel_rfl
theorem dk1_8 : dAll 1 8 = true := by kernel_rfl
end Go.Proofs.YtlakgnnjokienaaGreatDoor

namespace Go.Proofs.YtlakgnnjokienaaGreatDoor
open Go
theorem dk1_9 : dAll 1 9 = true := by kernel_rfl
theorem dk1_10 : dAll 1 10 = true := by kernel_rfl
end Go.Proofs.YtlakgnnjokienaaGreatDoor

namespace Go.Proofs.YtlakgnnjokienaaGreatDoor
open Go
theorem dk1_11 : dAll 1 11 = true := by kernel_rfl
theorem dk1_12 : dAll 1 12 = true := by kernel_rfl
end Go.Proofs.YtlakgnnjokienaaGreatDoor
