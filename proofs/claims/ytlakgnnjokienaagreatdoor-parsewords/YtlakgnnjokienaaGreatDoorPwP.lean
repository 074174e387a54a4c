/-
  Plain: words of the language where names stand (no program in it).
-/
import Derived.Test.YtlakgnnjokienaaGreatDoorPlA
import Derived.Test.YtlakgnnjokienaaGreatDoorPaD
namespace Go.Proofs.YtlakgnnjokienaaGreatDoor
open Go

def wd18 (i : Nat) : List UInt8 := [[112, 101, 114, 109, 105, 116], [102, 111, 114, 98, 105, 100], [119, 104, 101, 110], [117, 110, 108, 101, 115, 115], [105, 102], [116, 104, 101, 110], [101, 108, 115, 101], [116, 114, 117, 101], [102, 97, 108, 115, 101], [105, 110], [104, 97, 115], [108, 105, 107, 101], [112, 114, 105, 110, 99, 105, 112, 97, 108], [97, 99, 116, 105, 111, 110], [114, 101, 115, 111, 117, 114, 99, 101], [99, 111, 110, 116, 97, 105, 110, 115], [83, 101, 116], [101, 110, 116, 105, 116, 121]].getD i []
def wT1 (x : List UInt8) : List UInt8 := [112, 114, 105, 110, 99, 105, 112, 97, 108, 46] ++ x
def wT2 (x : List UInt8) : List UInt8 := x ++ [58, 58, 34, 120, 34]
def wT3 (x : List UInt8) : List UInt8 := x ++ [32, 58, 58, 32, 34, 120, 34]
def wT4 (x : List UInt8) : List UInt8 := [112, 114, 105, 110, 99, 105, 112, 97, 108, 32, 104, 97, 115, 32] ++ x
def wT5 (x : List UInt8) : List UInt8 := [49, 32] ++ x ++ [32, 50]
theorem wd18_len (i : Nat) (h : i < 18) : (wd18 i).length ≤ 9 := by
  have hc : i = 0 ∨ i = 1 ∨ i = 2 ∨ i = 3 ∨ i = 4 ∨ i = 5 ∨ i = 6 ∨ i = 7 ∨ i = 8 ∨ i = 9 ∨ i = 10 ∨ i = 11 ∨ i = 12 ∨ i = 13 ∨ i = 14 ∨ i = 15 ∨ i = 16 ∨ i = 17 := by omega
  rcases hc with rfl | rfl | rfl | rfl | rfl | rfl | rfl | rfl | rfl | rfl | rfl | rfl | rfl | rfl | rfl | rfl | rfl | rfl
  all_goals decide
theorem wd18_in (i : Nat) (h : i < 18) (h9 : i ≠ 9) : (wd18 i == [105, 110]) = false := by
  have hc : i = 0 ∨ i = 1 ∨ i = 2 ∨ i = 3 ∨ i = 4 ∨ i = 5 ∨ i = 6 ∨ i = 7 ∨ i = 8 ∨ i = 9 ∨ i = 10 ∨ i = 11 ∨ i = 12 ∨ i = 13 ∨ i = 14 ∨ i = 15 ∨ i = 16 ∨ i = 17 := by omega
  rcases hc with rfl | rfl | rfl | rfl | rfl | rfl | rfl | rfl | rfl | rfl | rfl | rfl | rfl | rfl | rfl | rfl | rfl | rfl
  all_goals first | rfl | exact absurd rfl h9
theorem words1 (i : Nat) (h : i < 18) : parseE (wT1 (wd18 i)) = (eTx 7 (wd18 i) [eVar cPrincipal], 0) ∧ mildB (wT1 (wd18 i)) = true := by
  have hc : i = 0 ∨ i = 1 ∨ i = 2 ∨ i = 3 ∨ i = 4 ∨ i = 5 ∨ i = 6 ∨ i = 7 ∨ i = 8 ∨ i = 9 ∨ i = 10 ∨ i = 11 ∨ i = 12 ∨ i = 13 ∨ i = 14 ∨ i = 15 ∨ i = 16 ∨ i = 17 := by omega
  rcases hc with rfl | rfl | rfl | rfl | rfl | rfl | rfl | rfl | rfl | rfl | rfl | rfl | rfl | rfl | rfl | rfl | rfl | rfl
  all_goals exact ⟨by kernel_rfl, by kernel_rfl⟩
theorem words2 (i : Nat) (h : i < 18) : parseE (wT2 (wd18 i)) = (eUid (wd18 i) [120], 0) ∧ mildB (wT2 (wd18 i)) = true := by
  have hc : i = 0 ∨ i = 1 ∨ i = 2 ∨ i = 3 ∨ i = 4 ∨ i = 5 ∨ i = 6 ∨ i = 7 ∨ i = 8 ∨ i = 9 ∨ i = 10 ∨ i = 11 ∨ i = 12 ∨ i = 13 ∨ i = 14 ∨ i = 15 ∨ i = 16 ∨ i = 17 := by omega
  rcases hc with rfl | rfl | rfl | rfl | rfl | rfl | rfl | rfl | rfl | rfl | rfl | rfl | rfl | rfl | rfl | rfl | rfl | rfl
  all_goals exact ⟨by kernel_rfl, by kernel_rfl⟩
theorem words4 (i : Nat) (h : i < 18) : parseE (wT4 (wd18 i)) = (eTx 8 (wd18 i) [eVar cPrincipal], 0) ∧ mildB (wT4 (wd18 i)) = true := by
  have hc : i = 0 ∨ i = 1 ∨ i = 2 ∨ i = 3 ∨ i = 4 ∨ i = 5 ∨ i = 6 ∨ i = 7 ∨ i = 8 ∨ i = 9 ∨ i = 10 ∨ i = 11 ∨ i = 12 ∨ i = 13 ∨ i = 14 ∨ i = 15 ∨ i = 16 ∨ i = 17 := by omega
  rcases hc with rfl | rfl | rfl | rfl | rfl | rfl | rfl | rfl | rfl | rfl | rfl | rfl | rfl | rfl | rfl | rfl | rfl | rfl
  all_goals exact ⟨by kernel_rfl, by kernel_rfl⟩
theorem words5 (i : Nat) (h : i < 18) : (parseE (wT5 (wd18 i))).2 = (if i = 9 then 0 else 13) ∧ mildB (wT5 (wd18 i)) = true := by
  have hc : i = 0 ∨ i = 1 ∨ i = 2 ∨ i = 3 ∨ i = 4 ∨ i = 5 ∨ i = 6 ∨ i = 7 ∨ i = 8 ∨ i = 9 ∨ i = 10 ∨ i = 11 ∨ i = 12 ∨ i = 13 ∨ i = 14 ∨ i = 15 ∨ i = 16 ∨ i = 17 := by omega
  rcases hc with rfl | rfl | rfl | rfl | rfl | rfl | rfl | rfl | rfl | rfl | rfl | rfl | rfl | rfl | rfl | rfl | rfl | rfl
  all_goals exact ⟨by kernel_rfl, by kernel_rfl⟩
def wTs (x : List UInt8) : List Tok := [⟨1, x, 0, 0⟩, ⟨4, [58, 58], 0, x.length + 1⟩, ⟨3, [120], 0, x.length + 4⟩]
theorem words3 (i : Nat) (h : i < 18) : toks (wT3 (wd18 i)) = (wTs (wd18 i), 0) ∧ True := by
  have hc : i = 0 ∨ i = 1 ∨ i = 2 ∨ i = 3 ∨ i = 4 ∨ i = 5 ∨ i = 6 ∨ i = 7 ∨ i = 8 ∨ i = 9 ∨ i = 10 ∨ i = 11 ∨ i = 12 ∨ i = 13 ∨ i = 14 ∨ i = 15 ∨ i = 16 ∨ i = 17 := by omega
  rcases hc with rfl | rfl | rfl | rfl | rfl | rfl | rfl | rfl | rfl | rfl | rfl | rfl | rfl | rfl | rfl | rfl | rfl | rfl
  all_goals exact ⟨by kernel_rfl, trivial⟩
theorem uid3_st (x : List UInt8) : uidSt (some (wTs x)) = some [] ∧ (needTok 1 (some (wTs x))).s = x ∧ (uidId (some (wTs x))).s = [120] := ⟨rfl, rfl, rfl⟩
end Go.Proofs.YtlakgnnjokienaaGreatDoor
