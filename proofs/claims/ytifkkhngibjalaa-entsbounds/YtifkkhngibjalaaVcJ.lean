/-
  value.Set: where a kind is not the first one's, or a set's.
-/
import Derived.Test.YtifkkhngibjalaaVcI
namespace Go.Proofs.Ytifkkhngibjalaa
open Go.RowKit Go.Sort

theorem at7_new (w : World) (r : R7) : At7 (w.alloc (.cells #[.int .i64 r.k, .bool r.b, .int .i64 r.n, .string r.s, .string r.t, .string r.i, .slice r.lo r.ll r.lc] 38)) w.heap.size 0 r :=
  ⟨by simp, by simp, by simp, by simp, by simp, by simp, by simp⟩

theorem set7_below {B b : Nat} {a w : World} (h : Below B a w) (hb : B ≤ b) (v0 v1 v2 v3 v4 v5 v6 : Value) :
    Below B a (((((((w.setCell ⟨b, 0, none⟩ v0).setCell ⟨b, 1, none⟩ v1).setCell ⟨b, 2, none⟩ v2).setCell ⟨b, 3, none⟩ v3).setCell ⟨b, 4, none⟩ v4).setCell ⟨b, 5, none⟩ v5).setCell ⟨b, 6, none⟩ v6) :=
  ((((((h.setCell (p := ⟨b, 0, none⟩) hb _).setCell (p := ⟨b, 1, none⟩) hb _).setCell (p := ⟨b, 2, none⟩) hb _).setCell (p := ⟨b, 3, none⟩) hb _).setCell (p := ⟨b, 4, none⟩) hb _).setCell (p := ⟨b, 5, none⟩) hb _).setCell (p := ⟨b, 6, none⟩) hb _

def zero7 : R7 := ⟨0, false, 0, ba [], ba [], ba [], none, 0, 0⟩

end Go.Proofs.Ytifkkhngibjalaa
