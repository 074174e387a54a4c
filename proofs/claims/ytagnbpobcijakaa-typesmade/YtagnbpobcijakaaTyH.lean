/-
 Package types: meetsAction, meetsType, Envs: what they return.
-/
import Derived.Test.YtagnbpobcijakaaTyRK
namespace Go.Proofs.Ytagnbpobcijakaa
open Go.RowKit Go.Sort

/-- What a request is of. -/
structure V3 where
 p : ByteArray
 a : ByteArray
 r : ByteArray
deriving DecidableEq
def V3.cells (v : V3) : List Value := [.string v.p, .string v.a, .string v.r]
def V3.val (v : V3) : Value := .agg #[.string v.p, .string v.a, .string v.r]
def meetA (k : Int) (t i n : ByteArray) : Bool := decide (k = 0) || decide ((⟨t, i⟩ : U2) = ⟨sAction, n⟩)
def meetT (k : Int) (t n : ByteArray) : Bool := !decide (k = 1) || decide (t = n)
/-- What the scopes ask for. -/
structure Q7 where
 pk : Int
 pt : ByteArray
 ak : Int
 at_ : ByteArray
 ai : ByteArray
 rk : Int
 rt : ByteArray
def envR (q : Q7) (a : AP) (p : ByteArray) (l : List ByteArray) : List V3 := l.flatMap fun r => if meetT q.pk q.pt p && meetT q.rk q.rt r then [⟨p, a.nm, r⟩] else []
def envQ (q : Q7) (a : AP) (l : List ByteArray) : List V3 := l.flatMap fun p => envR q a p a.re
def envA (q : Q7) (l : List AP) : List V3 := l.flatMap fun a => if meetA q.ak q.at_ q.ai a.nm then envQ q a a.pr else []
/-- The environments that a policy may meet. -/
def envsP (q : Q7) (s : SP) : List V3 := envA q s.ac
def RowV3 (w : World) (ao : Option Addr) (l : List V3) : Prop := RowG w ao 3 (l.map V3.cells)
/-- A row of environments is returned. -/
def EnvsPost (w : World) (l : List V3) (e : Ending) (w' : World) : Prop := Below w.heap.size w w' ∧ ∃ lo cap, e = .returned (.slice lo l.length cap) ∧ RowV3 w' lo l
theorem own_ne {w : World} {B n b : Nat} {T T' : TypeId} {sz : Nat} {v : Value} {xs : List Value} {c : Array Value} {fz : Nat × Nat} (h : w.ownsRow B T sz v n xs) (h' : w.heap[b]? = some (.cells c T' fz)) (hT : T' ≠ T) : some b ≠ v.ownBlock := by
 rcases h.2 with ⟨rfl, _⟩ | ⟨g, cap, cur, rfl, _, hg, _⟩
 ·intro e
  cases e
 ·intro e
  injection e with e
  rw [e] at h'
  rw [h'] at hg
  injection hg with hg
  injection hg with _ hg
  exact hT hg
end Go.Proofs.Ytagnbpobcijakaa
