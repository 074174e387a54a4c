/-
  Plain: deep trees, read (reckoned by the kernel).
  Plain: deep trees, read (reckoned by the kernel).
  Plain: deep trees, read (reckoned by the kernel).
  Plain: deep trees, read (reckoned by the kernel).
  Plain: deep trees, read (reckoned by the kernel).
  Plain: deep trees, read (reckoned by the kernel).
  Plain: deep trees, read (reckoned by the kernel).
  Plain: deep trees, read (reckoned by the kernel).
  Plain: all of them.
-/
import Derived.Test.YtlakgnnjokienaaGreatDoorPdX
namespace Go.Proofs.YtlakgnnjokienaaGreatDoor
open Go
theorem dk2_0 : dAll 2 0 = true := by kernel_rfl
theorem dk2_1 : dAll 2 1 = true := by kernel_rfl
theorem dk2_2 : dAll 2 2 = true := by kernel_rfl
theorem dk2_3 : dAll 2 3 = true := by kernel_rfl
theorem dk2_4 : dAll 2 4 = true := by kernel_rfl
end Go.Proofs.YtlakgnnjokienaaGreatDoor

namespace Go.Proofs.YtlakgnnjokienaaGreatDoor
open Go
theorem dk2_5 : dAll 2 5 = true := by kernel_rfl
theorem dk2_6 : dAll 2 6 = true := by kernel_rfl
theorem dk2_7 : dAll 2 7 = true := by kernel_rfl
theorem dk2_8 : dAll 2 8 = true := by kernel_rfl
end Go.Proofs.YtlakgnnjokienaaGreatDoor

namespace Go.Proofs.YtlakgnnjokienaaGreatDoor
open Go
theorem dk2_9 : dAll 2 9 = true := by kernel_rfl
theorem dk2_10 : dAll 2 10 = true := by kernel_rfl
end Go.Proofs.YtlakgnnjokienaaGreatDoor

namespace Go.Proofs.YtlakgnnjokienaaGreatDoor
open Go
theorem dk2_11 : dAll 2 11 = true := by kernel_rfl
theorem dk2_12 : dAll 2 12 = true := by kernel_rfl
end Go.Proofs.YtlakgnnjokienaaGreatDoor

namespace Go.Proofs.YtlakgnnjokienaaGreatDoor
open Go
theorem dk3_0 : dAll 3 0 = true := by kernel_rfl
theorem dk3_1 : dAll 3 1 = true := by kernel_rfl
theorem dk3_2 : dAll 3 2 = true := by kernel_rfl
theorem dk3_3 : dAll 3 3 = true := by kernel_rfl
theorem dk3_4 : dAll 3 4 = true := by kernel_rfl
end Go.Proofs.YtlakgnnjokienaaGreatDoor

namespace Go.Proofs.YtlakgnnjokienaaGreatDoor
open Go
theorem dk3_5 : dAll 3 5 = true := by kernel_rfl
theorem dk3_6 : dAll 3 6 = true := by kernel_rfl
theorem dk3_7 : dAll 3 7 = true := by kernel_rfl
theorem dk3_8 : dAll 3 8 = true := by kernel_rfl
end Go.Proofs.YtlakgnnjokienaaGreatDoor

namespace Go.Proofs.YtlakgnnjokienaaGreatDoor
open Go
theorem dk3_9 : dAll 3 9 = true := by kernel_rfl
theorem dk3_10 : dAll 3 10 = true := by kernel_rfl
end Go.Proofs.YtlakgnnjokienaaGreatDoor

namespace Go.Proofs.YtlakgnnjokienaaGreatDoor
open Go
theorem dk3_11 : dAll 3 11 = true := by kernel_rfl
theorem dk3_12 : dAll 3 12 = true := by kernel_rfl
end Go.Proofs.YtlakgnnjokienaaGreatDoor

namespace Go.Proofs.YtlakgnnjokienaaGreatDoor
open Go

theorem dAll_ok (h n : Nat) (hh : h < 4) (hn : n < 13) : dAll h n = true := by
  match h, hh with
  | 0, _ =>
    match n, hn with
    | 0, _ => exact dk0_0
    | 1, _ => exact dk0_1
    | 2, _ => exact dk0_2
    | 3, _ => exact dk0_3
    | 4, _ => exact dk0_4
    | 5, _ => exact dk0_5
    | 6, _ => exact dk0_6
    | 7, _ => exact dk0_7
    | 8, _ => exact dk0_8
    | 9, _ => exact dk0_9
    | 10, _ => exact dk0_10
    | 11, _ => exact dk0_11
    | 12, _ => exact dk0_12
  | 1, _ =>
    match n, hn with
    | 0, _ => exact dk1_0
    | 1, _ => exact dk1_1
    | 2, _ => exact dk1_2
    | 3, _ => exact dk1_3
    | 4, _ => exact dk1_4
    | 5, _ => exact dk1_5
    | 6, _ => exact dk1_6
    | 7, _ => exact dk1_7
    | 8, _ => exact dk1_8
    | 9, _ => exact dk1_9
    | 10, _ => exact dk1_10
    | 11, _ => exact dk1_11
    | 12, _ => exact dk1_12
  | 2, _ =>
    match n, hn with
    | 0, _ => exact dk2_0
    | 1, _ => exact dk2_1
    | 2, _ => exact dk2_2
    | 3, _ => exact dk2_3
    | 4, _ => exact dk2_4
    | 5, _ => exact dk2_5
    | 6, _ => exact dk2_6
    | 7, _ => exact dk2_7
    | 8, _ => exact dk2_8
    | 9, _ => exact dk2_9
    | 10, _ => exact dk2_10
    | 11, _ => exact dk2_11
    | 12, _ => exact dk2_12
  | 3, _ =>
    match n, hn with
    | 0, _ => exact dk3_0
    | 1, _ => exact dk3_1
    | 2, _ => exact dk3_2
    | 3, _ => exact dk3_3
    | 4, _ => exact dk3_4
    | 5, _ => exact dk3_5
    | 6, _ => exact dk3_6
    | 7, _ => exact dk3_7
    | 8, _ => exact dk3_8
    | 9, _ => exact dk3_9
    | 10, _ => exact dk3_10
    | 11, _ => exact dk3_11
    | 12, _ => exact dk3_12
theorem dOk_ok (h n m : Nat) (hh : h < 4) (hn : n < 13) (hm : m < 30) : dOk h n m = true :=
  List.all_eq_true.1 (dAll_ok h n hh hn) m (List.mem_range.2 hm)
theorem dText_len (h : Nat) : ∀ n, (dText h n).length ≤ 4 + 24 * n
  | 0 => by
    unfold dText dBase
    split <;> simp [cTrue]
  | n + 1 => by
    have := dText_len h n
    unfold dText dStep
    split
    · simp; omega
    · split
      · simp; omega
      · split
        · simp; omega
        · simp; omega
theorem dBr_len (s : List UInt8) : ∀ m, (dBr s m).length = s.length + 2 * m
  | 0 => rfl
  | m + 1 => by
    have := dBr_len s m
    unfold dBr
    simp
    omega
end Go.Proofs.YtlakgnnjokienaaGreatDoor
