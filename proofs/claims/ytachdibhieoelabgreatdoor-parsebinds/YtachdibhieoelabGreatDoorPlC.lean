/-
  Plain: three things with two signs between.
-/
import Derived.Test.YtachdibhieoelabGreatDoorPlB
namespace Go.Proofs.YtachdibhieoelabGreatDoor
open Go

def bs5 (i : Nat) : List UInt8 := [[124, 124], [38, 38], [43], [45], [42]].getD i []
def bo5 (i : Nat) : Int := [24, 23, 14, 15, 13].getD i 0
def bb5 (i : Nat) : Int := [1, 2, 4, 4, 5].getD i 0
theorem bs5_len (i : Nat) (h : i < 5) : (bs5 i).length ≤ 2 := by
  match i, h with
  | 0, _ | 1, _ | 2, _ | 3, _ | 4, _ => decide
def bTree (i j : Nat) : Ex := if bb5 i < bb5 j then eOp (bo5 i) [eLong 1, eOp (bo5 j) [eLong 2, eLong 3]] else eOp (bo5 j) [eOp (bo5 i) [eLong 1, eLong 2], eLong 3]
theorem binds_plain (i j : Nat) (hi : i < 5) (hj : j < 5) : parseE (cT1 (bs5 i) (bs5 j)) = (bTree i j, 0) ∧ mildB (cT1 (bs5 i) (bs5 j)) = true := by
  match i, hi, j, hj with
  | 0, _, 0, _ => exact ⟨by kernel_rfl, by kernel_rfl⟩
  | 0, _, 1, _ => exact ⟨by kernel_rfl, by kernel_rfl⟩
  | 0, _, 2, _ => exact ⟨by kernel_rfl, by kernel_rfl⟩
  | 0, _, 3, _ => exact ⟨by kernel_rfl, by kernel_rfl⟩
  | 0, _, 4, _ => exact ⟨by kernel_rfl, by kernel_rfl⟩
  | 1, _, 0, _ => exact ⟨by kernel_rfl, by kernel_rfl⟩
  | 1, _, 1, _ => exact ⟨by kernel_rfl, by kernel_rfl⟩
  | 1, _, 2, _ => exact ⟨by kernel_rfl, by kernel_rfl⟩
  | 1, _, 3, _ => exact ⟨by kernel_rfl, by kernel_rfl⟩
  | 1, _, 4, _ => exact ⟨by kernel_rfl, by kernel_rfl⟩
  | 2, _, 0, _ => exact ⟨by kernel_rfl, by kernel_rfl⟩
  | 2, _, 1, _ => exact ⟨by kernel_rfl, by kernel_rfl⟩
  | 2, _, 2, _ => exact ⟨by kernel_rfl, by kernel_rfl⟩
  | 2, _, 3, _ => exact ⟨by kernel_rfl, by kernel_rfl⟩
  | 2, _, 4, _ => exact ⟨by kernel_rfl, by kernel_rfl⟩
  | 3, _, 0, _ => exact ⟨by kernel_rfl, by kernel_rfl⟩
  | 3, _, 1, _ => exact ⟨by kernel_rfl, by kernel_rfl⟩
  | 3, _, 2, _ => exact ⟨by kernel_rfl, by kernel_rfl⟩
  | 3, _, 3, _ => exact ⟨by kernel_rfl, by kernel_rfl⟩
  | 3, _, 4, _ => exact ⟨by kernel_rfl, by kernel_rfl⟩
  | 4, _, 0, _ => exact ⟨by kernel_rfl, by kernel_rfl⟩
  | 4, _, 1, _ => exact ⟨by kernel_rfl, by kernel_rfl⟩
  | 4, _, 2, _ => exact ⟨by kernel_rfl, by kernel_rfl⟩
  | 4, _, 3, _ => exact ⟨by kernel_rfl, by kernel_rfl⟩
  | 4, _, 4, _ => exact ⟨by kernel_rfl, by kernel_rfl⟩
end Go.Proofs.YtachdibhieoelabGreatDoor
