/-
  chancellaw3.within; Check of plain values; rows of ints.
-/
import Derived.Test.YtppincbcaijcbaaGreatVdD
import Derived.Test.YtppincbcaijcbaaGreatLawOf
namespace Go.Proofs.YtppincbcaijcbaaGreat
open Go.RowKit Go.Sort

set_option maxHeartbeats 1000000 in
theorem within3_any (a n : Int) (hn : 0 < n) (hn1 : n ≤ 4294967296) (w : World) :
    Calls Tryz.prog 12 #[.int .i64 a, .int .i64 n] w fun e w' => e = .returned (.int .i64 (a % n)) ∧ w' = w := by
  go_enter Tryz.func12, Tryz.ntmps12
  go_wp2
  · go_ret
    exact ⟨ret_int (tmod_neg a n hn hn1 (by assumption)), rfl⟩
  · go_ret
    exact ⟨ret_int (tmod_pos a n hn (by assumption)), rfl⟩

/-- What a plain value is told by Check. -/
def chkP : PV → Int
  | .bool _ => 0
  | .long _ => 0
  | .str s => chkT s
  | .uid t i => chkU t i
theorem chkFlat_ofP (p : PV) : chkFlat (ofP p) = chkP p := by
  cases p <;> simp [chkFlat, moreB, SameF, bareR, ofP, chkP, ba]

def smallP : PV → Prop
  | .str s => s.length ≤ 1099511627776
  | .uid t i => t.length ≤ 1099511627776 ∧ i.length ≤ 1099511627776
  | _ => True
theorem vcheck_ofP (p : PV) (w : World) (h : smallP p) : Calls Tryz.prog 10 #[(ofP p).val] w fun e w' => e = .returned (.int .i64 (chkP p)) ∧ Below w.heap.size w w' := by
  rw [← chkFlat_ofP]
  have h0 : (ba []).size ≤ 1099511627776 := by decide
  cases p with
  | bool b => exact vcheck_flat _ w (show (1 : Int) ≠ 5 by decide) h0 h0 h0
  | long n => exact vcheck_flat _ w (show (2 : Int) ≠ 5 by decide) h0 h0 h0
  | str s => exact vcheck_flat _ w (show (3 : Int) ≠ 5 by decide) (by rw [Lib.size_eq]; exact h) h0 h0
  | uid t i => exact vcheck_flat _ w (show (4 : Int) ≠ 5 by decide) h0 (by rw [Lib.size_eq]; exact h.1) (by rw [Lib.size_eq]; exact h.2)

theorem intsAt_own {w : World} {B : Nat} {v : Value} {zs : List Int} (h : w.ownsRow B 3 1 v zs.length (zs.map (Value.int .i64))) : ∃ ao cap, v = .slice ao zs.length cap ∧ IntsAt w ao zs := by
  rcases h.2 with ⟨hv, h0⟩ | ⟨g, cap, cur, hv, _, hg, _, _, hcs, hxs⟩
  · exact ⟨none, 0, by rw [hv, h0], fun j hj => by omega⟩
  · refine ⟨_, cap, hv, fun j hj => ⟨g, 0, rfl, (Array.getElem?_eq_some_iff.1 hg).1, ?_⟩⟩
    rw [cell_of_block hg, Nat.zero_add]
    have : (zs.map (Value.int .i64))[j]? = some (.int .i64 zs[j]) := by rw [List.getElem?_map, List.getElem?_eq_getElem hj]; rfl
    rw [← hxs, List.getElem?_take] at this
    split at this
    · simpa using this
    · cases this

theorem infoInt : (Tryz.prog.info? 3).map (fun i => (i.zero, i.size, i.bytes)) = some (some (.int .i64 0), 1, 8) := by kernel_rfl
theorem runes_txt (zs : List Int) : runes (txt zs) = picks zs := runes_ofL _ (picks_ok zs)
theorem okL_txt (zs : List Int) : okL (txt zs) = true := okL_ofL _ (picks_ok zs)
end Go.Proofs.YtppincbcaijcbaaGreat
