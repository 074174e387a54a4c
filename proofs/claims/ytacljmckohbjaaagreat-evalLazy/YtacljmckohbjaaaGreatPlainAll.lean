/-
  Plain facts: what reading a quoted text comes to, byte by byte (no program in it).
  Plain facts: what is quoted is read back; quoting byte by byte is quoting rune by rune (no program in it).
  Plain facts on numbers of 64 bits (no program in it): what is answered of a number, and its error.
  Plain facts on the texts of numbers (no program in it): what is a number, what it says, and that what is written is read again.
  Plain: the tokens of a source, as the document tells them (no program in it).
  Plain: trees, and how tokens are read as one (no program in it).
-/
import Derived.Test.YtacljmckohbjaaaGreatEncAll
import Derived.Test.YtacljmckohbjaaaGreatProg
import Derived.Test.YtacljmckohbjaaaGreatPlain
import Derived.WalkKit
import Derived.WalkSpells
import Derived.Lib.ItoaNum
import Derived.Lib.ItoaMem
import Derived.Lib.MapLaws
import Derived.Lib.Strings
import Derived.Lib.RuneBytes
import Derived.Lib.IndexMore
import Derived.Test.YtacljmckohbjaaaGreatRunAll
namespace Go.Proofs.YtacljmckohbjaaaGreat
open Go

/-- What a hexadecimal digit counts, of a rune; and whether it is one. -/
def digV (r : Int) : Int := if 48 ≤ r ∧ r ≤ 57 then r - 48 else if 97 ≤ r ∧ r ≤ 102 then r - 87 else if 65 ≤ r ∧ r ≤ 70 then r - 55 else 0
def digQ (r : Int) : Bool := decide ((48 ≤ r ∧ r ≤ 57) ∨ (97 ≤ r ∧ r ≤ 102) ∨ (65 ≤ r ∧ r ≤ 70))
/-- The digits up to the closing brace: k of them are read, they count n: the rune, how many bytes, the error. -/
def digL : Nat → Int → List UInt8 → Int × Int × Int
  | _, _, [] => (0, 0, 12)
  | k, n, c :: t =>
    if c = 125 ∧ 0 < k then (if Lib.validRune n then (n, (k : Int) + 1, 0) else (0, 0, 11))
    else if digQ c.toNat ∧ k ≠ 6 then digL (k + 1) (16 * n + digV c.toNat) t
    else (0, 0, 12)

/-- An escape, with whose backslash the bytes begin. -/
def escL (l : List UInt8) : Int × Int × Int :=
  if Lib.hasPrefix l [92, 117, 123] then
    (if (digL 0 0 (l.drop 3)).2.2 = 0 then ((digL 0 0 (l.drop 3)).1, 3 + (digL 0 0 (l.drop 3)).2.1, 0) else (0, 0, (digL 0 0 (l.drop 3)).2.2))
  else if l.length < 2 then (0, 0, 12)
  else if l.getD 1 0 = 92 ∨ l.getD 1 0 = 34 then ((l.getD 1 0).toNat, 2, 0)
  else if l.getD 1 0 = 110 then (10, 2, 0)
  else if l.getD 1 0 = 116 then (9, 2, 0)
  else (0, 0, 12)

/-- One rune, or one escape. -/
def oneL (l : List UInt8) : Int × Int × Int :=
  if (Lib.decodeL l).1 < 32 then (0, 0, 12)
  else if (Lib.decodeL l).1 = 92 then escL l
  else ((Lib.decodeL l).1, Lib.runeLen (Lib.decodeL l).1, 0)

/-- Behind the opening sign: what is meant so far, at which place. -/
def readF : Nat → List UInt8 → List UInt8 → Int → List UInt8 × Int × Int
  | 0, _, _, _ => ([], 0, 12)
  | f + 1, l, acc, pos =>
    if l = [] then ([], 0, 12)
    else if (Lib.decodeL l).1 = 34 then (acc, pos + 1, 0)
    else if badHead l then ([], 0, 11)
    else if (oneL l).2.2 = 0 then readF f (l.drop (oneL l).2.1.toNat) (acc ++ Lib.encodeRune (oneL l).1) (pos + (oneL l).2.1)
    else ([], 0, (oneL l).2.2)

/-- The reading, with as much fuel as it wants. -/
def rdL (l acc : List UInt8) (pos : Int) : List UInt8 × Int × Int := readF (l.length + 1) l acc pos
/-- The same step, its first rune told. -/
def oneX (l : List UInt8) (r : Int) : Int × Int × Int := if r < 32 then (0, 0, 12) else if r = 92 then escL l else (r, Lib.runeLen r, 0)
def rd (l : List UInt8) : List UInt8 × Int × Int := if Lib.hasPrefix l [34] then rdL (l.drop 1) [] 1 else ([], 0, 12)
end Go.Proofs.YtacljmckohbjaaaGreat

namespace Go.Proofs.YtacljmckohbjaaaGreat
open Go

/-- Escaping, byte by byte. -/
def bq (c : UInt8) : List UInt8 :=
  if c = 92 ∨ c = 34 then [92, c]
  else if c = 10 then [92, 110]
  else if c = 9 then [92, 116]
  else if c.toNat < 32 ∨ c.toNat = 127 then [92, 117, 123] ++ hexL c.toNat ++ [125]
  else [c]
/-- Quoting byte by byte. -/
def bquote (l : List UInt8) : List UInt8 := 34 :: (l.flatMap bq ++ [34])
end Go.Proofs.YtacljmckohbjaaaGreat

namespace Go.Proofs.YtacljmckohbjaaaGreat
open Go


/-- A number of 64 bits. -/
def InR (x : Int) : Prop := -9223372036854775808 ≤ x ∧ x ≤ 9223372036854775807
instance (x : Int) : Decidable (InR x) := inferInstanceAs (Decidable (_ ∧ _))
/-- The number, or nought where it is beyond the bounds. -/
def nv (x : Int) : Int := if InR x then x else 0
/-- No error, or ErrOver where it is beyond the bounds. -/
def ne (x : Int) : Int := if InR x then 0 else 17
theorem nv_ok {x : Int} (h : InR x) : nv x = x := if_pos h
theorem ne_ok {x : Int} (h : InR x) : ne x = 0 := if_pos h
theorem nv_no {x : Int} (h : ¬ InR x) : nv x = 0 := if_neg h
theorem ne_no {x : Int} (h : ¬ InR x) : ne x = 17 := if_neg h
/-- A number of 64 bits that is a + b but for whole turns of 2^64. -/
theorem wrap_add (s : Int) (h0 : -18446744073709551616 ≤ s) (h1 : s < 18446744073709551616) :
    (InR s → IntKind.i64.wrap s = s) ∧ (9223372036854775807 < s → IntKind.i64.wrap s = s - 18446744073709551616) ∧ (s < -9223372036854775808 → IntKind.i64.wrap s = s + 18446744073709551616) := by
  have e := IntKind.wrap_i64 s
  unfold InR
  refine ⟨fun h => ?_, fun h => ?_, fun h => ?_⟩ <;> (rw [e]; omega)

/-- A product that is taken round, and what it is divided by one of its two numbers: the other one just where nothing was taken round. -/
theorem mul_facts (a b : Int) (ha : InR a) (hb : InR b) (h0 : a ≠ 0) (hx : a ≠ -1 ∨ b ≠ -9223372036854775808) :
    ∃ c q, IntKind.i64.wrap (a * b) = c ∧ InR c ∧ IntKind.i64.wrap (c.tdiv a) = q ∧ (q = b ↔ InR (a * b)) ∧ (InR (a * b) → a * b = c) := by
  obtain ⟨a0, a1⟩ := ha
  obtain ⟨b0, b1⟩ := hb
  refine ⟨_, _, rfl, ?_, rfl, ?_, ?_⟩
  · unfold InR
    rw [IntKind.wrap_i64]
    omega
  · constructor
    · intro hq
      generalize hp : a * b = p at *
      generalize hc : IntKind.i64.wrap p = c at *
      rw [IntKind.wrap_i64] at hc
      have c0 : -9223372036854775808 ≤ c := by omega
      have c1 : c ≤ 9223372036854775807 := by omega
      have hd := Int.mul_tdiv_add_tmod c a
      by_cases hmin : a = -1
      · have hb' : b ≠ -9223372036854775808 := by
          rcases hx with h | h
          · exact absurd hmin h
          · exact h
        unfold InR
        rw [hmin] at hp
        omega
      · have hin : -9223372036854775808 ≤ c.tdiv a ∧ c.tdiv a ≤ 9223372036854775807 := by
          have hn := Int.natAbs_tdiv_le_natAbs c a
          have hz : (c.tdiv a).natAbs ≤ c.natAbs := hn
          by_cases hz2 : c.natAbs ≤ 9223372036854775807
          · omega
          · have hcm : c = -9223372036854775808 := by omega
            subst hcm
            have h2 : 2 ≤ a.natAbs ∨ a = 1 := by omega
            rcases h2 with h2 | h2
            · have : ((-9223372036854775808 : Int).tdiv a).natAbs = 9223372036854775808 / a.natAbs := by
                rw [Int.natAbs_tdiv]
                rfl
              have h3 : 9223372036854775808 / a.natAbs ≤ 9223372036854775808 / 2 := Nat.div_le_div_left h2 (by decide)
              omega
            · subst h2
              rw [Int.tdiv_one]
              omega
        rw [IntKind.wrap_i64] at hq
        have hq2 : c.tdiv a = b := by omega
        rw [hq2, hp] at hd
        have hm : (c.tmod a).natAbs < a.natAbs := by
          rw [Int.natAbs_tmod]
          exact Nat.mod_lt _ (by omega)
        unfold InR
        omega
    · intro hin
      have hc : IntKind.i64.wrap (a * b) = a * b := by
        rw [IntKind.wrap_i64]
        unfold InR at hin
        omega
      rw [hc, Int.mul_tdiv_cancel_left _ h0, IntKind.wrap_i64]
      omega
  · intro hin
    rw [IntKind.wrap_i64]
    unfold InR at hin
    omega
end Go.Proofs.YtacljmckohbjaaaGreat

namespace Go.Proofs.YtacljmckohbjaaaGreat
open Go

def digB (b : UInt8) : Bool := decide (48 ≤ b.toNat ∧ b.toNat ≤ 57)
/-- What digits say, behind a number n. -/
def valF (n : Nat) : List UInt8 → Nat
  | [] => n
  | b :: t => valF (10 * n + (b.toNat - 48)) t
/-- Digits, one at least, without noughts ahead. -/
def numOk (l : List UInt8) : Bool := l.all digB && (l == [48] || (l != [] && !Lib.hasPrefix l [48]))
def pv (l : List UInt8) : Int := if numOk l then nv (valF 0 l) else 0
def pe (l : List UInt8) : Int := if numOk l then ne (valF 0 l) else 12
end Go.Proofs.YtacljmckohbjaaaGreat

namespace Go.Proofs.YtacljmckohbjaaaGreat
open Go

def letB (b : UInt8) : Bool := letR b.toNat
def dgB (b : UInt8) : Bool := digR b.toNat
def nmB (b : UInt8) : Bool := letR b.toNat || digR b.toNat
def lnB (b : UInt8) : Bool := !decide ((b.toNat : Int) = 10)
def blkR (r : Int) : Bool := decide (r = 32) || (decide (r = 9) || (decide (r = 10) || decide (r = 13)))

def sgns : List (List UInt8) := [[58, 58], [61, 61], [33, 61], [60, 61], [62, 61], [38, 38], [124, 124], [45, 62], [40], [41], [123], [125], [91], [93], [44], [59], [58], [46], [60], [62], [33], [43], [45], [42]]

/-- A token that was read: its kind, text, number, how many bytes it has, the error. -/
structure Tk where
  k : Int
  s : List UInt8
  n : Int
  z : Nat
  e : Int
def badT (e : Int) : Tk := ⟨0, [], 0, 0, e⟩
def nameT (row : List UInt8) : Tk := if 12 < row.length then badT 5 else ⟨1, row, 0, row.length, 0⟩
def longT (row : List UInt8) : Tk := if pe row = 0 then ⟨2, [], pv row, row.length, 0⟩ else badT (pe row)
def strT (l : List UInt8) : Tk := if (rd l).2.2 = 0 then (if 30 < (runes (rd l).1).length then badT 5 else ⟨3, (rd l).1, 0, (rd l).2.1.toNat, 0⟩) else badT (rd l).2.2
def signF (l : List UInt8) : List (List UInt8) → Tk
  | [] => badT 12
  | g :: r => if Lib.hasPrefix l g then ⟨4, g, 0, g.length, 0⟩ else signF l r
def signT (l : List UInt8) : Tk := signF l sgns
def tokL (l : List UInt8) : Tk :=
  if letB (l.getD 0 0) then nameT (l.takeWhile nmB) else if dgB (l.getD 0 0) then longT (l.takeWhile dgB) else if ((l.getD 0 0).toNat : Int) = 34 then strT l else signT l
def gapL (l : List UInt8) : Nat := if blkR (l.getD 0 0).toNat then 1 else if Lib.hasPrefix l [47, 47] then (l.takeWhile lnB).length else 0

structure Tok where
  k : Int
  s : List UInt8
  n : Int
  p : Nat

def toksF : Nat → List UInt8 → Nat → List Tok → List Tok × Int
  | 0, _, _, _ => ([], 0)
  | f + 1, l, at', acc => if l = [] then (acc, 0) else
      if 0 < gapL l then toksF f (l.drop (gapL l)) (at' + gapL l) acc
      else if (tokL l).e = 0 then (if acc.length = 200 then ([], 4) else toksF f (l.drop (tokL l).z) (at' + (tokL l).z) (acc ++ [⟨(tokL l).k, (tokL l).s, (tokL l).n, at'⟩]))
      else ([], (tokL l).e)
def toksL (l : List UInt8) (at' : Nat) (acc : List Tok) : List Tok × Int := toksF (l.length + 1) l at' acc
def toks (l : List UInt8) : List Tok × Int := if 600 < l.length then ([], 5) else if okL l then toksL l 0 [] else ([], 11)

/-! ## Runes and their bytes. -/

/-! ## Places where a rune begins. -/

inductive Bd : List UInt8 → Nat → Prop
  | zero (l : List UInt8) : Bd l 0
  | step (l : List UInt8) (n : Nat) : l ≠ [] → Bd (l.drop (Lib.decodeL l).2) n → Bd l ((Lib.decodeL l).2 + n)

theorem Bd.next {l : List UInt8} {n : Nat} (h : Bd l n) (hn : 0 < n) : l ≠ [] ∧ (Lib.decodeL l).2 ≤ n ∧ Bd (l.drop (Lib.decodeL l).2) (n - (Lib.decodeL l).2) := by
  cases h with
  | zero => omega
  | step _ m h1 h2 => exact ⟨h1, by omega, by rw [Nat.add_sub_cancel_left]; exact h2⟩

theorem Bd.ok {l : List UInt8} {n : Nat} (h : Bd l n) : okL l = true → okL (l.drop n) = true := by
  induction h with
  | zero l => simp
  | step l n hne _ ih =>
    intro hok
    rw [okL_cons l hne] at hok
    split at hok
    · cases hok
    · rw [← List.drop_drop]
      exact ih hok

/-! ## How far a token goes. -/

def Tok.cells (t : Tok) : List Value := [.int .i64 t.k, .string ⟨t.s.toArray⟩, .int .i64 t.n, .int .i64 t.p]
def cellsT (l : List Tok) : List Value := l.flatMap Tok.cells
end Go.Proofs.YtacljmckohbjaaaGreat

namespace Go.Proofs.YtacljmckohbjaaaGreat
open Go

/-- A tree: its operation, truth, number, text, uid, kids. -/
inductive Ex where
  | mk (k : Int) (b : Bool) (n : Int) (s t i : List UInt8) (l : List Ex)

abbrev Rs (α : Type) := Option (α × List Tok)
abbrev Pr (α : Type) := List Tok → Rs α

def tok0 : Tok := ⟨0, [], 0, 0⟩
def hd (ts : List Tok) (j : Nat) : Tok := ts.getD j tok0
/-- Does this token stand there? -/
def isT (k : Int) (x : List UInt8) (ts : List Tok) : Bool := decide ((hd ts 0).k = k) && decide ((hd ts 0).s = x)
def sg (x : List UInt8) (ts : List Tok) : Bool := isT 4 x ts
def wd (x : List UInt8) (ts : List Tok) : Bool := isT 1 x ts
def needS (x : List UInt8) (ts : List Tok) : Option (List Tok) := if sg x ts then some ts.tail else none
def needW (x : List UInt8) (ts : List Tok) : Option (List Tok) := if wd x ts then some ts.tail else none
def need (k : Int) : Pr Tok := fun ts => if (hd ts 0).k = k then some (hd ts 0, ts.tail) else none
def atUid (ts : List Tok) : Bool := decide ((hd ts 0).k = 1) && (decide ((hd ts 1).k = 4) && decide ((hd ts 1).s = [58, 58]))

def eLong (n : Int) : Ex := .mk 2 false n [] [] [] []
def eStr (s : List UInt8) : Ex := .mk 3 false 0 s [] [] []
def eBool (b : Bool) : Ex := .mk 1 b 0 [] [] [] []
def eVar (s : List UInt8) : Ex := .mk 5 false 0 s [] [] []
def eUid (t i : List UInt8) : Ex := .mk 4 false 0 [] t i []
def eOp (k : Int) (l : List Ex) : Ex := .mk k false 0 [] [] [] l
def eTx (k : Int) (s : List UInt8) (l : List Ex) : Ex := .mk k false 0 s [] [] l

def cTrue : List UInt8 := [116, 114, 117, 101]
def cFalse : List UInt8 := [102, 97, 108, 115, 101]
def cPrincipal : List UInt8 := [112, 114, 105, 110, 99, 105, 112, 97, 108]
def cAction : List UInt8 := [97, 99, 116, 105, 111, 110]
def cResource : List UInt8 := [114, 101, 115, 111, 117, 114, 99, 101]
def cContains : List UInt8 := [99, 111, 110, 116, 97, 105, 110, 115]
def cHas : List UInt8 := [104, 97, 115]
def cLike : List UInt8 := [108, 105, 107, 101]
def cIf : List UInt8 := [105, 102]
def cThen : List UInt8 := [116, 104, 101, 110]
def cElse : List UInt8 := [101, 108, 115, 101]
def cIn : List UInt8 := [105, 110]
def isVar (s : List UInt8) : Bool := decide (s = cPrincipal) || (decide (s = cAction) || decide (s = cResource))

def uidP : Pr (List UInt8 × List UInt8) := fun ts =>
  (need 1 ts).bind fun a => (needS [58, 58] a.2).bind fun r => (need 3 r).map fun b => ((a.1.s, b.1.s), b.2)

def wordOf (a : List UInt8) (r : List Tok) : Rs Ex := if a = cTrue then some (eBool true, r) else if a = cFalse then some (eBool false, r) else if isVar a then some (eVar a, r) else none
def wordedP : Pr Ex := fun ts => (need 1 ts).bind fun a => wordOf a.1.s a.2
def leafP : Pr Ex := fun ts =>
  if (hd ts 0).k = 2 then some (eLong (hd ts 0).n, ts.tail) else if (hd ts 0).k = 3 then some (eStr (hd ts 0).s, ts.tail) else wordedP ts

def listL {α : Type} (E : Pr α) : Nat → List α → Pr (List α)
  | 0, _, _ => none
  | n + 1, acc, ts => if sg [44] ts then (E ts.tail).bind fun p => listL E n (acc ++ [p.1]) p.2 else some (acc, ts)
def listOfP {α : Type} (E : Pr α) : Pr (List α) := fun ts => (E ts).bind fun p => listL E (p.2.length + 1) [p.1] p.2
def listUpP {α : Type} (E : Pr α) (z : List UInt8) : Pr (List α) := fun ts =>
  if sg z ts then some ([], ts.tail) else (listOfP E ts).bind fun p => (needS z p.2).map fun r => (p.1, r)

def primP (E : Pr Ex) : Pr Ex := fun ts =>
  if atUid ts then (uidP ts).map fun u => (eUid u.1.1 u.1.2, u.2)
  else if sg [40] ts then (E ts.tail).bind fun p => (needS [41] p.2).map fun r => (p.1, r)
  else if sg [91] ts then (listUpP E [93] ts.tail).map fun p => (eOp 6 p.1, p.2)
  else leafP ts

/-- What stands behind a dot. -/
def memberP (E : Pr Ex) (of : Ex) : Pr Ex := fun ts =>
  (need 1 ts).bind fun a => if sg [40] a.2 then (if a.1.s = cContains then (E a.2.tail).bind fun p => (needS [41] p.2).map fun r => (eOp 9 [of, p.1], r) else none) else some (eTx 7 a.1.s [of], a.2)
def memL (E : Pr Ex) : Nat → Ex → Pr Ex
  | 0, _, _ => none
  | n + 1, x, ts => if sg [46] ts then (memberP E x ts.tail).bind fun p => memL E n p.1 p.2 else some (x, ts)
def memP (E : Pr Ex) : Pr Ex := fun ts => (primP E ts).bind fun p => memL E (p.2.length + 1) p.1 p.2

def op1 (k : Int) (o : Rs Ex) : Rs Ex := o.map fun p => (eOp k [p.1], p.2)
def unN (E : Pr Ex) : Nat → Pr Ex
  | 0, _ => none
  | n + 1, ts => if sg [33] ts then op1 11 (unN E n ts.tail) else if sg [45] ts then op1 12 (unN E n ts.tail) else memP E ts
def unP (E : Pr Ex) : Pr Ex := fun ts => unN E (ts.length + 1) ts

/-- Which of these signs stands there: its operation. -/
def pickT : List (Int × List UInt8 × Int) → List Tok → Option Int
  | [], _ => none
  | (k, x, op) :: l, ts => if isT k x ts then some op else pickT l ts
/-- Two of a level, and more, leaning to the left. -/
def binL (l : List (Int × List UInt8 × Int)) (E : Pr Ex) : Nat → Ex → Pr Ex
  | 0, _, _ => none
  | n + 1, x, ts => match pickT l ts with
    | none => some (x, ts)
    | some op => (E ts.tail).bind fun p => binL l E n (eOp op [x, p.1]) p.2
def binP (l : List (Int × List UInt8 × Int)) (E : Pr Ex) : Pr Ex := fun ts => (E ts).bind fun p => binL l E (p.2.length + 1) p.1 p.2

def sMul : List (Int × List UInt8 × Int) := [(4, [42], 13)]
def sAdd : List (Int × List UInt8 × Int) := [(4, [43], 14), (4, [45], 15)]
def sAnd : List (Int × List UInt8 × Int) := [(4, [38, 38], 23)]
def sOr : List (Int × List UInt8 × Int) := [(4, [124, 124], 24)]
def sCmp : List (Int × List UInt8 × Int) := [(4, [61, 61], 20), (4, [33, 61], 21), (4, [60], 16), (4, [60, 61], 17), (4, [62], 18), (4, [62, 61], 19), (1, cIn, 22)]

def mulP (E : Pr Ex) : Pr Ex := binP sMul (unP E)
def addP (E : Pr Ex) : Pr Ex := binP sAdd (mulP E)
def op2 (k : Int) (x : Ex) (o : Rs Ex) : Rs Ex := o.map fun p => (eOp k [x, p.1], p.2)
/-- What may stand behind a sum. -/
def relT (E : Pr Ex) (x : Ex) : Pr Ex := fun ts =>
  match pickT sCmp ts with
  | some op => op2 op x (addP E ts.tail)
  | none => if wd cHas ts then (need 1 ts.tail).map fun a => (eTx 8 a.1.s [x], a.2)
    else if wd cLike ts then (need 3 ts.tail).map fun a => (eTx 10 a.1.s [x], a.2)
    else some (x, ts)
def relP (E : Pr Ex) : Pr Ex := fun ts => (addP E ts).bind fun p => relT E p.1 p.2
def andP (E : Pr Ex) : Pr Ex := binP sAnd (relP E)
def orP (E : Pr Ex) : Pr Ex := binP sOr (andP E)
def ifP (E : Pr Ex) : Pr Ex := fun ts =>
  (E ts).bind fun a => (needW cThen a.2).bind fun r => (E r).bind fun b => (needW cElse b.2).bind fun r => (E r).map fun c => (eOp 25 [a.1, b.1, c.1], c.2)
def exprP (E : Pr Ex) : Pr Ex := fun ts => if atUid ts || !wd cIf ts then orP E ts else ifP E ts.tail
def exprN : Nat → Pr Ex
  | 0 => fun _ => none
  | n + 1 => exprP (exprN n)

/-! ## How deep, and whether it may be. -/

mutual
def depE : Ex → Nat
  | .mk _ _ _ _ _ _ l => depL l + 1
def depL : List Ex → Nat
  | [] => 0
  | e :: l => max (depE e) (depL l)
end

/-- How many kids; -1: any; -2: no such operation. -/
def ary (k : Int) : Int :=
  if k = 6 then -1 else if k = 25 then 3 else if 1 ≤ k ∧ k ≤ 5 then 0 else if k = 7 ∨ k = 8 ∨ k = 10 ∨ k = 11 ∨ k = 12 then 1 else if 9 ≤ k ∧ k ≤ 24 then 2 else -2
def txOp (k : Int) : Bool := decide (k = 3 ∨ k = 5 ∨ k = 7 ∨ k = 8 ∨ k = 10)
/-- Is there more in it than its operation's own? -/
def moreE (k : Int) (b : Bool) (n : Int) (s t i : List UInt8) : Bool :=
  (!decide (k = 1) && b) || (!decide (k = 2) && !decide (n = 0)) || (!txOp k && !decide (s = [])) || (!decide (k = 4) && (!decide (t = []) || !decide (i = []))) || decide (n < 0)
def txtE (s : List UInt8) : Int := if okL s then (if 30 < (runes s).length then 5 else 0) else 11
def uidE (t i : List UInt8) : Int := if nameB t then txtE i else 15
def ownE (k : Int) (s t i : List UInt8) (m : Nat) : Int :=
  if k = 3 ∨ k = 10 then txtE s else if k = 4 then uidE t i else if k = 5 then (if isVar s then 0 else 15) else if k = 7 ∨ k = 8 then (if nameB s then 0 else 15) else if k = 6 then (if 8 < m then 4 else 0) else 0
def nodeE (k : Int) (b : Bool) (n : Int) (s t i : List UInt8) (m : Nat) : Int :=
  if ary k = -2 then 3 else if ary k ≠ -1 ∧ ary k ≠ m then 13 else if moreE k b n s t i then 1 else ownE k s t i m
mutual
def nodesE : Ex → Int
  | .mk k b n s t i l => if nodeE k b n s t i l.length = 0 then nodesL l else nodeE k b n s t i l.length
def nodesL : List Ex → Int
  | [] => 0
  | e :: l => if nodesE e = 0 then nodesL l else nodesE e
end
def checkE (e : Ex) : Int := if nodesE e = 0 then (if 10 < depE e then 14 else 0) else nodesE e

def noE : Ex := .mk 0 false 0 [] [] [] []
/-- parse.Expr, plain. -/
def parseT (ts : List Tok) : Ex × Int :=
  match exprN (ts.length + 1) ts with
  | some (x, []) => if checkE x = 0 then (x, 0) else (noE, checkE x)
  | _ => (noE, 13)
def parseE (s : List UInt8) : Ex × Int := if (toks s).2 = 0 then parseT (toks s).1 else (noE, (toks s).2)

/-! ## Nothing is read twice. -/

def Short {α : Type} (E : Pr α) : Prop := ∀ ts x r, E ts = some (x, r) → r.length ≤ ts.length
end Go.Proofs.YtacljmckohbjaaaGreat
