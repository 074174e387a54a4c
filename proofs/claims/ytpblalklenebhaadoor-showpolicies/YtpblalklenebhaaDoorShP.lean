/-
  Plain: the text of a tree (no program in it).
-/
import Derived.Test.YtpblalklenebhaaDoorPaP
namespace Go.Proofs.YtpblalklenebhaaDoor
open Go

/-- How strongly an operation binds. -/
def lev (k : Int) : Int := if k = 25 then 0 else if k = 24 then 1 else if k = 23 then 2 else if (16 ≤ k ∧ k ≤ 22) ∨ k = 8 ∨ k = 10 then 3 else if k = 14 ∨ k = 15 then 4 else if k = 13 then 5 else if k = 11 ∨ k = 12 then 6 else if k = 7 ∨ k = 9 then 7 else 8
def opE : Ex → Int
  | .mk k _ _ _ _ _ _ => k
def brk (c : Bool) (s : List UInt8) : List UInt8 := if c then 40 :: (s ++ [41]) else s
/-- The text of a kid that is asked for a level. -/
def kidT (ks : List (Int × List UInt8)) (j : Nat) (asked : Int) : List UInt8 :=
  match ks[j]? with
  | none => []
  | some p => brk (decide (lev p.1 < asked)) p.2
def sgnO (k : Int) : List UInt8 :=
  if k = 13 then [42] else if k = 14 then [43] else if k = 15 then [45] else if k = 16 then [60] else if k = 17 then [60, 61] else if k = 18 then [62] else if k = 19 then [62, 61] else if k = 20 then [61, 61] else if k = 21 then [33, 61] else if k = 22 then [105, 110] else if k = 23 then [38, 38] else if k = 24 then [124, 124] else []
/-- Texts parted by a separator. -/
def joinS (z : List UInt8) : List (List UInt8) → List UInt8
  | [] => []
  | s :: l => s ++ l.flatMap fun t => z ++ t
def firstL (k : Int) : Int := if lev k = 3 then 4 else lev k
def bodyE (k : Int) (b : Bool) (n : Int) (s t i : List UInt8) (ks : List (Int × List UInt8)) : List UInt8 :=
  if k = 1 then (if b then cTrue else cFalse)
  else if k = 2 then Lib.itoa n
  else if k = 3 then quoteL s
  else if k = 4 then t ++ [58, 58] ++ quoteL i
  else if k = 5 then s
  else if k = 6 then [91] ++ joinS [44, 32] (ks.map (·.2)) ++ [93]
  else if k = 7 then kidT ks 0 7 ++ [46] ++ s
  else if k = 8 then kidT ks 0 4 ++ [32, 104, 97, 115, 32] ++ s
  else if k = 9 then kidT ks 0 7 ++ [46, 99, 111, 110, 116, 97, 105, 110, 115, 40] ++ kidT ks 1 0 ++ [41]
  else if k = 10 then kidT ks 0 4 ++ [32, 108, 105, 107, 101, 32] ++ quoteL s
  else if k = 11 then [33] ++ kidT ks 0 6
  else if k = 12 then [45] ++ kidT ks 0 6
  else if k = 25 then [105, 102, 32] ++ kidT ks 0 0 ++ [32, 116, 104, 101, 110, 32] ++ kidT ks 1 0 ++ [32, 101, 108, 115, 101, 32] ++ kidT ks 2 0
  else if 13 ≤ k ∧ k ≤ 24 then kidT ks 0 (firstL k) ++ [32] ++ sgnO k ++ [32] ++ kidT ks 1 (lev k + 1)
  else []
mutual
def showE : Ex → List UInt8
  | .mk k b n s t i l => bodyE k b n s t i (showL l)
def showL : List Ex → List (Int × List UInt8)
  | [] => []
  | x :: l => (opE x, showE x) :: showL l
end
theorem showL_get : ∀ (l : List Ex) (j : Nat) (h : j < l.length), (showL l)[j]? = some (opE l[j], showE l[j])
  | [], j, h => by simp at h
  | x :: l, 0, _ => by simp [showL]
  | x :: l, j + 1, h => by
    have := showL_get l j (by simpa using h)
    simpa [showL] using this
theorem showL_len : ∀ l : List Ex, (showL l).length = l.length
  | [] => rfl
  | x :: l => by simp [showL, showL_len l]
theorem kidT_showL (l : List Ex) (j : Nat) (h : j < l.length) (a : Int) : kidT (showL l) j a = brk (decide (lev (opE l[j]) < a)) (showE l[j]) := by
  unfold kidT
  rw [showL_get l j h]
theorem kidT_none (l : List Ex) (j : Nat) (h : ¬ j < l.length) (a : Int) : kidT (showL l) j a = [] := by
  unfold kidT
  rw [List.getElem?_eq_none (by rw [showL_len]; omega)]
theorem brk_len (c : Bool) (s : List UInt8) : (brk c s).length ≤ s.length + 2 := by
  unfold brk
  split <;> simp
theorem brk_ge (c : Bool) (s : List UInt8) : s.length ≤ (brk c s).length := by
  unfold brk
  split <;> simp
  omega
end Go.Proofs.YtpblalklenebhaaDoor
