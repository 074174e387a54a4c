/-
  The contents' own compare: what they return of plain values.
-/
import Derived.Test.YtnbbimcooilmdaaGreatVcA
namespace Go.Proofs.YtnbbimcooilmdaaGreat
open Go.RowKit Go.Sort

theorem ta_truth (v : Value) (w : World) : (Instr.typeAssert (.iface 114 v) 103 114 false).run Tryz.prog w = .ok v w := by kernel_rfl
theorem ta_long (v : Value) (w : World) : (Instr.typeAssert (.iface 115 v) 103 115 false).run Tryz.prog w = .ok v w := by kernel_rfl
theorem ta_str (v : Value) (w : World) : (Instr.typeAssert (.iface 116 v) 103 116 false).run Tryz.prog w = .ok v w := by kernel_rfl
theorem ta_uid (v : Value) (w : World) : (Instr.typeAssert (.iface 117 v) 103 117 false).run Tryz.prog w = .ok v w := by kernel_rfl
theorem ta_elements (v : Value) (w : World) : (Instr.typeAssert (.iface 118 v) 103 118 false).run Tryz.prog w = .ok v w := by kernel_rfl
theorem ta_set (v : Value) (w : World) : (Instr.typeAssert (.iface 118 v) 103 118 true).run Tryz.prog w = .ok (.tuple #[v, .bool true]) w := by kernel_rfl

/-- Below nought, nought, above: by the order of plain values. -/
def cmpP (p q : PV) : Int := if lessP p q then -1 else if lessP q p then 1 else 0

/-- .. of texts. -/
def cmpB (a b : List UInt8) : Int := if decide (a < b) then -1 else if decide (b < a) then 1 else 0

theorem cmpB_cases (a b : List UInt8) : (Op.bytesLess (ba a).toList (ba b).toList = true ∧ ((ba a).toList == (ba b).toList) = false ∧ cmpB a b = -1) ∨ (Op.bytesLess (ba a).toList (ba b).toList = false ∧ ((ba a).toList == (ba b).toList) = false ∧ cmpB a b = 1) ∨ (Op.bytesLess (ba a).toList (ba b).toList = false ∧ ((ba a).toList == (ba b).toList) = true ∧ cmpB a b = 0) := by
  rw [bytesLess_eq, ba_list, ba_list]
  unfold cmpB
  rcases bytes_tri a b with h | h | h
  · refine .inl ⟨decide_eq_true h, ?_, if_pos (decide_eq_true h)⟩
    rw [beq_eq_false_iff_ne]
    rintro rfl
    exact bytes_irr _ h
  · subst h
    have h1 : decide (a < a) = false := decide_eq_false (bytes_irr a)
    exact .inr (.inr ⟨h1, by simp, by rw [h1]; rfl⟩)
  · have h1 : decide (a < b) = false := decide_eq_false (fun h2 => bytes_irr _ (bytes_trans h2 h))
    refine .inr (.inl ⟨h1, ?_, by rw [h1, decide_eq_true h]; rfl⟩)
    rw [beq_eq_false_iff_ne]
    rintro rfl
    exact bytes_irr _ h

set_option maxHeartbeats 400000 in
set_option maxRecDepth 100000 in
theorem truthCmp_any (a b : Bool) (w : World) :
    Calls Tryz.prog 116 #[.bool a, conP (.bool b)] w fun e w' => e = .returned (.int .i64 (cmpP (.bool a) (.bool b))) ∧ w' = w := by
  unfold conP
  cases a <;> cases b
  all_goals
    have T := ta_truth
    go_enter Tryz.func116, Tryz.ntmps116
    go_wp2
    go_ret
    exact ⟨rfl, rfl⟩

set_option maxHeartbeats 400000 in
set_option maxRecDepth 100000 in
theorem cmpLong_any (a b : Int) (w : World) :
    Calls Tryz.prog 122 #[.int .i64 a, .int .i64 b] w fun e w' => e = .returned (.int .i64 (cmpI a b)) ∧ w' = w := by
  rcases Int.lt_trichotomy a b with h | h | h
  · have he : cmpI a b = -1 := if_pos h
    rw [he]
    go_enter Tryz.func122, Tryz.ntmps122
    go_wp2
    go_ret
    exact ⟨rfl, rfl⟩
  · have he : cmpI a b = 0 := by unfold cmpI; rw [if_neg (by omega), if_neg (by omega)]
    rw [he]
    have h1 : ¬ a < b := by omega
    have h2 : ¬ b < a := by omega
    clear h
    go_enter Tryz.func122, Tryz.ntmps122
    go_wp2
    go_ret
    exact ⟨rfl, rfl⟩
  · have he : cmpI a b = 1 := by unfold cmpI; rw [if_neg (by omega), if_pos h]
    rw [he]
    have h1 : ¬ a < b := by omega
    go_enter Tryz.func122, Tryz.ntmps122
    go_wp2
    go_ret
    exact ⟨rfl, rfl⟩

set_option maxHeartbeats 400000 in
set_option maxRecDepth 100000 in
theorem cmpStr_any (a b : List UInt8) (w : World) :
    Calls Tryz.prog 127 #[.string (ba a), .string (ba b)] w fun e w' => e = .returned (.int .i64 (cmpB a b)) ∧ w' = w := by
  have hs : ((ba a).toList == (ba a).toList) = true := by simp
  have hs' : ((ba b).toList == (ba b).toList) = true := by simp
  rcases cmpB_cases a b with ⟨h1, h2, he⟩ | ⟨h1, h2, he⟩ | ⟨h1, h2, he⟩
  all_goals
    rw [he]
    go_enter Tryz.func127, Tryz.ntmps127
    go_wp2
    go_ret
    exact ⟨rfl, rfl⟩

set_option maxHeartbeats 400000 in
set_option maxRecDepth 100000 in
theorem cmpString_any (a b : List UInt8) (w : World) :
    Calls Tryz.prog 70 #[.string (ba a), .string (ba b)] w fun e w' => e = .returned (.int .i64 (cmpB a b)) ∧ w' = w := by
  have hs : ((ba a).toList == (ba a).toList) = true := by simp
  have hs' : ((ba b).toList == (ba b).toList) = true := by simp
  rcases cmpB_cases a b with ⟨h1, h2, he⟩ | ⟨h1, h2, he⟩ | ⟨h1, h2, he⟩
  all_goals
    rw [he]
    go_enter Tryz.func70, Tryz.ntmps70
    go_wp2
    go_ret
    exact ⟨rfl, rfl⟩

set_option maxHeartbeats 400000 in
set_option maxRecDepth 100000 in
theorem longCmp_any (a b : Int) (w : World) :
    Calls Tryz.prog 119 #[.int .i64 a, conP (.long b)] w fun e w' => e = .returned (.int .i64 (cmpP (.long a) (.long b))) ∧ w' = w := by
  have he : cmpP (.long a) (.long b) = cmpI a b := by simp [cmpP, cmpI, lessP]
  rw [he]
  unfold conP
  have T := ta_long
  go_enter Tryz.func119, Tryz.ntmps119
  go_wp2_with (go_at_call 122; refine (cmpLong_any _ _ _).mono ?_; rintro e w' ⟨rfl, rfl⟩)
  go_ret
  exact ⟨rfl, rfl⟩

set_option maxHeartbeats 400000 in
set_option maxRecDepth 100000 in
theorem strCmp_any (a b : List UInt8) (w : World) :
    Calls Tryz.prog 124 #[.string (ba a), conP (.str b)] w fun e w' => e = .returned (.int .i64 (cmpP (.str a) (.str b))) ∧ w' = w := by
  have he : cmpP (.str a) (.str b) = cmpB a b := by simp [cmpP, cmpB, lessP]
  rw [he]
  unfold conP
  have T := ta_str
  go_enter Tryz.func124, Tryz.ntmps124
  go_wp2_with (go_at_call 127; refine (cmpStr_any _ _ _).mono ?_; rintro e w' ⟨rfl, rfl⟩)
  go_ret
  exact ⟨rfl, rfl⟩
end Go.Proofs.YtnbbimcooilmdaaGreat
