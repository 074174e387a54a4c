/-
  value.checkText: what it returns.
  value.checkUid: what it returns.
  value.hasMore.
  value.contentOf of any value; value.Check, out of its parts.
  value.Check of any value that is no set.
-/
import Derived.Test.YtnbbimcooilmdaaGreatNamesPW
import Derived.Test.YtnbbimcooilmdaaGreatVcIM
namespace Go.Proofs.YtnbbimcooilmdaaGreat
open Go.RowKit

/-- What a text is told by Check: none, too long, or good. -/
def chkT (l : List UInt8) : Int := if okL l then (if 30 < (runes l).length then 5 else 0) else 11

set_option maxHeartbeats 1000000 in
set_option maxRecDepth 1000000 in
theorem checkText_any (s : ByteArray) (w : World) (hs : s.size ≤ 1099511627776) :
    Calls Tryz.prog 75 #[.string s] w fun e w' => e = .returned (.int .i64 (chkT s.data.toList)) ∧ Below w.heap.size w w' := by
  have C := check_any s
  have R := fun w => runeCount_any s w hs
  by_cases hok : okL s.data.toList = true
  · rw [chk_ok hok] at C
    by_cases h30 : 30 < (runes s.data.toList).length
    · have e : chkT s.data.toList = 5 := by rw [chkT, hok, if_pos rfl, if_pos h30]
      rw [e]
      generalize (runes s.data.toList).length = n at *
      have i1 : (30 : Int) < (n : Int) := by omega
      clear hok e
      go_enter Tryz.func75, Tryz.ntmps75
      go_wp2_with fail
      refine (C _).mono ?_
      rintro e w2 ⟨rfl, b2⟩
      go_wp2_with fail
      refine (R _).mono ?_
      rintro e w3 ⟨rfl, b3⟩
      go_wp2
      go_ret
      exact ⟨rfl, b2.trans (b3.mono b2.size)⟩
    · have e : chkT s.data.toList = 0 := by rw [chkT, hok, if_pos rfl, if_neg h30]
      rw [e]
      generalize (runes s.data.toList).length = n at *
      have i1 : ¬ (30 : Int) < (n : Int) := by omega
      clear hok e
      go_enter Tryz.func75, Tryz.ntmps75
      go_wp2_with fail
      refine (C _).mono ?_
      rintro e w2 ⟨rfl, b2⟩
      go_wp2_with fail
      refine (R _).mono ?_
      rintro e w3 ⟨rfl, b3⟩
      go_wp2
      go_ret
      exact ⟨rfl, b2.trans (b3.mono b2.size)⟩
  · have hbad : okL s.data.toList = false := by simpa using hok
    rw [chk_bad hbad] at C
    have e : chkT s.data.toList = 11 := by rw [chkT, hbad]; rfl
    rw [e]
    clear hok hbad e
    go_enter Tryz.func75, Tryz.ntmps75
    go_wp2_with fail
    refine (C _).mono ?_
    rintro e w2 ⟨rfl, b2⟩
    go_wp2
    go_ret
    exact ⟨rfl, b2⟩

end Go.Proofs.YtnbbimcooilmdaaGreat

namespace Go.Proofs.YtnbbimcooilmdaaGreat
open Go.RowKit

/-- What a uid is told by Check. -/
def chkU (t i : List UInt8) : Int := if nameB t then chkT i else 15

set_option maxHeartbeats 1000000 in
set_option maxRecDepth 1000000 in
theorem checkUid_any (t i : ByteArray) (w : World) (ht : t.size ≤ 1099511627776) (hi : i.size ≤ 1099511627776) :
    Calls Tryz.prog 76 #[.agg #[.string t, .string i]] w fun e w' => e = .returned (.int .i64 (chkU t.data.toList i.data.toList)) ∧ Below w.heap.size w w' := by
  have N := fun w => isName_any t w ht
  have C := fun w => checkText_any i w hi
  have b1 := below1 w (.cells #[.string t, .string i] 25)
  have c1 : (w.alloc (.cells #[.string t, .string i] 25)).cell? ⟨w.heap.size, 1, none⟩ = some (.string i) := by simp
  have z1 := size1 w (.cells #[.string t, .string i] 25)
  cases hn : nameB t.data.toList with
  | true =>
    have e : chkU t.data.toList i.data.toList = chkT i.data.toList := by rw [chkU, hn]; rfl
    rw [e]
    rw [hn] at N
    clear hn e
    go_enter Tryz.func76, Tryz.ntmps76
    go_wp2_with fail
    generalize w.alloc _ = w1 at *
    refine (N _).mono ?_
    rintro e w2 ⟨rfl, b2⟩
    have c2 := (b2.cell (p := ⟨w.heap.size, 1, none⟩) (by show w.heap.size < _; omega)).trans c1
    have b02 := b1.trans (b2.mono b1.size)
    go_wp2_with fail
    refine (C _).mono ?_
    rintro e w3 ⟨rfl, b3⟩
    go_wp2
    go_ret
    exact ⟨rfl, b02.trans (b3.mono b02.size)⟩
  | false =>
    have e : chkU t.data.toList i.data.toList = 15 := by rw [chkU, hn]; rfl
    rw [e]
    rw [hn] at N
    clear hn e
    go_enter Tryz.func76, Tryz.ntmps76
    go_wp2_with fail
    generalize w.alloc _ = w1 at *
    refine (N _).mono ?_
    rintro e w2 ⟨rfl, b2⟩
    go_wp2
    go_ret
    exact ⟨rfl, b1.trans (b2.mono b1.size)⟩
end Go.Proofs.YtnbbimcooilmdaaGreat

namespace Go.Proofs.YtnbbimcooilmdaaGreat
open Go.RowKit Go.Sort

/-- Have two values, kinds aside, the same in all fields (the list's length for the list)? -/
def SameF (r r' : R7) : Prop := r.b = r'.b ∧ r.n = r'.n ∧ r.s = r'.s ∧ r.t = r'.t ∧ r.i = r'.i ∧ r.ll = r'.ll

set_option maxHeartbeats 2000000 in
set_option maxRecDepth 1000000 in
theorem hasMore_yes (r r' : R7) (w : World) (h : ¬ SameF r r') :
    Calls Tryz.prog 67 #[r.val, r'.val] w fun e w' => e = .returned (.bool true) ∧ Below w.heap.size w w' := by
  obtain ⟨k, b, n, s, t, i, lo, ll, lc⟩ := r
  obtain ⟨k', b', n', s', t', i', lo', ll', lc'⟩ := r'
  unfold SameF at h
  unfold R7.val
  simp only at h ⊢
  by_cases hb0 : b = b'
  case neg =>
    have hb : (b == b') = false := by simpa using hb0
    clear h
    go_enter Tryz.func67, Tryz.ntmps67
    go_wp2
    go_ret
    exact ⟨rfl, below2 _ _ _⟩
  subst hb0
  by_cases hn : n = n'
  case neg =>
    have hb : (n == n') = false := by simpa using hn
    clear h
    go_enter Tryz.func67, Tryz.ntmps67
    go_wp2
    go_ret
    exact ⟨rfl, below2 _ _ _⟩
  subst hn
  by_cases hs : s = s'
  case neg =>
    have hb : (s.toList == s'.toList) = false := bytes_ne hs
    clear h
    go_enter Tryz.func67, Tryz.ntmps67
    go_wp2
    go_ret
    exact ⟨rfl, below2 _ _ _⟩
  subst hs
  by_cases ht : t = t'
  case neg =>
    have hb : (t.toList == t'.toList) = false := bytes_ne ht
    clear h
    go_enter Tryz.func67, Tryz.ntmps67
    go_wp2
    go_ret
    exact ⟨rfl, below2 _ _ _⟩
  subst ht
  by_cases hi : i = i'
  case neg =>
    have hb : (i.toList == i'.toList) = false := bytes_ne hi
    clear h
    go_enter Tryz.func67, Tryz.ntmps67
    go_wp2
    go_ret
    exact ⟨rfl, below2 _ _ _⟩
  subst hi
  by_cases hl : ll = ll'
  case neg =>
    have hb : ((ll : Int) == (ll' : Int)) = false := by simpa using (show ¬ (ll : Int) = ll' by omega)
    clear h
    go_enter Tryz.func67, Tryz.ntmps67
    go_wp2
    go_ret
    exact ⟨ret_bool (by simp [bne, hb]), below2 _ _ _⟩
  subst hl
  exact absurd ⟨rfl, rfl, rfl, rfl, rfl, rfl⟩ h

set_option maxHeartbeats 2000000 in
set_option maxRecDepth 1000000 in
theorem hasMore_no (r r' : R7) (w : World) (h : SameF r r') :
    Calls Tryz.prog 67 #[r.val, r'.val] w fun e w' => e = .returned (.bool false) ∧ Below w.heap.size w w' := by
  obtain ⟨k, b, n, s, t, i, lo, ll, lc⟩ := r
  obtain ⟨k', b', n', s', t', i', lo', ll', lc'⟩ := r'
  unfold SameF at h
  unfold R7.val
  simp only at h ⊢
  obtain ⟨rfl, rfl, rfl, rfl, rfl, rfl⟩ := h
  go_enter Tryz.func67, Tryz.ntmps67
  go_wp2
  go_ret
  exact ⟨ret_bool (by simp), below2 _ _ _⟩
end Go.Proofs.YtnbbimcooilmdaaGreat

namespace Go.Proofs.YtnbbimcooilmdaaGreat
open Go.RowKit Go.Sort

set_option maxHeartbeats 2000000 in
set_option maxRecDepth 1000000 in
theorem contentOf_none (r : R7) (w : World) (h : r.k < 1 ∨ 5 < r.k) :
    Calls Tryz.prog 66 #[r.val] w fun e w' => e = .returned (.iface 106 (.agg #[])) ∧ Below w.heap.size w w' := by
  have h1 : (r.k == 1) = false := by simpa using (show ¬ r.k = 1 by omega)
  have h2 : (r.k == 2) = false := by simpa using (show ¬ r.k = 2 by omega)
  have h3 : (r.k == 3) = false := by simpa using (show ¬ r.k = 3 by omega)
  have h4 : (r.k == 4) = false := by simpa using (show ¬ r.k = 4 by omega)
  have h5 : (r.k == 5) = false := by simpa using (show ¬ r.k = 5 by omega)
  clear h
  unfold R7.val
  go_enter Tryz.func66, Tryz.ntmps66
  go_wp2
  go_ret
  exact ⟨rfl, below1 _ _⟩

set_option maxHeartbeats 2000000 in
set_option maxRecDepth 1000000 in
theorem contentOf_kind (r : R7) (T : TypeId) (x : Value) (w : World) (h : (r.k = 1 ∧ T = 114 ∧ x = .bool r.b) ∨ (r.k = 2 ∧ T = 115 ∧ x = .int .i64 r.n) ∨ (r.k = 3 ∧ T = 116 ∧ x = .string r.s) ∨ (r.k = 4 ∧ T = 117 ∧ x = .agg #[.string r.t, .string r.i]) ∨ (r.k = 5 ∧ T = 118 ∧ x = .slice r.lo r.ll r.lc)) :
    Calls Tryz.prog 66 #[r.val] w fun e w' => e = .returned (.iface T x) ∧ Below w.heap.size w w' := by
  obtain ⟨k, b, n, s, t, i, lo, ll, lc⟩ := r
  unfold R7.val
  simp only at h ⊢
  rcases h with ⟨rfl, rfl, rfl⟩ | ⟨rfl, rfl, rfl⟩ | ⟨rfl, rfl, rfl⟩ | ⟨rfl, rfl, rfl⟩ | ⟨rfl, rfl, rfl⟩
  all_goals
    go_enter Tryz.func66, Tryz.ntmps66
    go_wp2
    go_ret
    exact ⟨rfl, below1 _ _⟩

theorem ta_no (T : TypeId) (x : Value) (w : World) (h : T = 114 ∨ T = 115 ∨ T = 116 ∨ T = 117 ∨ T = 118) : (Instr.typeAssert (.iface T x) 103 106 true).run Tryz.prog w = .ok (.tuple #[.agg #[], .bool false]) w := by
  rcases h with rfl | rfl | rfl | rfl | rfl <;> kernel_rfl
theorem ta_none (w : World) : (Instr.typeAssert (.iface 106 (.agg #[])) 103 106 true).run Tryz.prog w = .ok (.tuple #[.agg #[], .bool true]) w := by kernel_rfl

set_option maxHeartbeats 2000000 in
set_option maxRecDepth 1000000 in
theorem vcheck_none (r : R7) (w : World) (h : r.k < 1 ∨ 5 < r.k) :
    Calls Tryz.prog 57 #[r.val] w fun e w' => e = .returned (.int .i64 3) ∧ Below w.heap.size w w' := by
  have C := fun w => contentOf_none r w h
  have T := ta_none
  clear h
  unfold R7.val at *
  have b1 := below1 w (.cells #[.int .i64 r.k, .bool r.b, .int .i64 r.n, .string r.s, .string r.t, .string r.i, .slice r.lo r.ll r.lc] 52)
  go_enter Tryz.func57, Tryz.ntmps57
  go_wp2_with fail
  generalize w.alloc _ = w1 at *
  refine (C _).mono ?_
  rintro e w2 ⟨rfl, b2⟩
  go_wp2
  go_ret
  exact ⟨rfl, (b1.trans (b2.mono b1.size)).alloc (Nat.le_trans b1.size b2.size) _⟩

set_option maxHeartbeats 2000000 in
set_option maxRecDepth 1000000 in
theorem vcheck_of (r bare : R7) (T : TypeId) (f : FuncId) (x : Value) (y z : Int) (m : Bool) (w : World)
    (C1 : ∀ w, Calls Tryz.prog 66 #[r.val] w fun e w' => e = .returned (.iface T x) ∧ Below w.heap.size w w')
    (hA : ∀ w, (Instr.typeAssert (.iface T x) 103 106 true).run Tryz.prog w = .ok (.tuple #[.agg #[], .bool false]) w)
    (hM : ∀ w, (method 253 T x "chancel/value.value").run Tryz.prog w = .ok (f, x) w) (hE : ∀ w, (callFunc f #[x]).run Tryz.prog w = .ok (.enter f #[x]) w)
    (C2 : ∀ w, Calls Tryz.prog f #[x] w fun e w' => e = .returned bare.val ∧ Below w.heap.size w w')
    (C3 : ∀ w, Calls Tryz.prog 67 #[r.val, bare.val] w fun e w' => e = .returned (.bool m) ∧ Below w.heap.size w w')
    (C4 : m = false → ∀ w', Below w.heap.size w w' → Calls Tryz.prog 68 #[.iface T x] w' fun e w'' => e = .returned (.int .i64 y) ∧ Below w'.heap.size w' w'') (hz : z = if m then 1 else y) :
    Calls Tryz.prog 57 #[r.val] w fun e w' => e = .returned (.int .i64 z) ∧ Below w.heap.size w w' := by
  unfold R7.val at *
  have b1 := below1 w (.cells #[.int .i64 r.k, .bool r.b, .int .i64 r.n, .string r.s, .string r.t, .string r.i, .slice r.lo r.ll r.lc] 52)
  have A1 := at7_new w r
  have z1 := size1 w (.cells #[.int .i64 r.k, .bool r.b, .int .i64 r.n, .string r.s, .string r.t, .string r.i, .slice r.lo r.ll r.lc] 52)
  have Hz := hide hz
  clear hz
  go_enter Tryz.func57, Tryz.ntmps57
  go_wp2_with fail
  generalize w.alloc _ = w1 at *
  refine (C1 _).mono ?_
  rintro e w2 ⟨rfl, b2⟩
  have b02 := b1.trans (b2.mono b1.size)
  have A2 := A1.below b2 (by omega)
  go_wp2_with fail
  have b3 : Below w.heap.size w (w2.alloc (.cells #[] 106)) := b02.alloc b02.size _
  have A3 := (A2.below (below1 w2 (.cells #[] 106)) (by have := b2.size; omega)).up
  generalize w2.alloc _ = w3 at *
  clear A1 A2 C1
  have cS2 := fun d os => Calls.regrown_of (w := w3) (d := d) (os := os) (C2 (grow (redrawn w3 d) os))
  have cS3 := fun d os => Calls.regrown_of (w := w3) (d := d) (os := os) (C3 (grow (redrawn w3 d) os))
  clear C2 C3
  obtain ⟨a0, a1, a2, a3, a4, a5, a6⟩ := A3
  simp only [Nat.zero_add] at a1 a2 a3 a4 a5 a6
  refine wp_region_quiet_below (by kernel_rfl) (by kernel_rfl) ?_
  quiet_step (fail)
  quiet_step (fail)
  quiet_step (exact cS2 _ _)
  quiet_step (exact cS3 _ _)
  refine wpQuiet_nil ?_
  intro _ hw'
  obtain ⟨⟨dq, osq⟩, hw''⟩ := hw'
  subst hw''
  have b4 := b3.trans ((below_regrown w3 dq osq).mono b3.size)
  generalize grow (redrawn w3 dq) osq = w4 at *
  clear a0 a1 a2 a3 a4 a5 a6 cS2 cS3
  cases m
  · have C4' := C4 rfl w4 b4
    clear C4
    go_wp2_with fail
    refine C4'.mono ?_
    rintro e w5 ⟨rfl, b5⟩
    go_wp2
    go_ret
    exact ⟨ret_int (unhide Hz).symm, b4.trans (b5.mono b4.size)⟩
  · go_wp2
    go_ret
    exact ⟨ret_int (unhide Hz).symm, b4⟩
end Go.Proofs.YtnbbimcooilmdaaGreat

namespace Go.Proofs.YtnbbimcooilmdaaGreat
open Go.RowKit Go.Sort

instance (r r' : R7) : Decidable (SameF r r') := by unfold SameF; infer_instance

/-- The value with nothing in the fields of other kinds. -/
def bareR (r : R7) : R7 := ⟨r.k, if r.k = 1 then r.b else false, if r.k = 2 then r.n else 0, if r.k = 3 then r.s else ba [], if r.k = 4 then r.t else ba [], if r.k = 4 then r.i else ba [], if r.k = 5 then r.lo else none, if r.k = 5 then r.ll else 0, if r.k = 5 then r.lc else 0⟩
def moreB (r : R7) : Bool := decide (¬ SameF r (bareR r))
def chkFlat (r : R7) : Int :=
  if r.k < 1 ∨ 5 < r.k then 3 else if moreB r then 1 else if r.k = 3 then chkT r.s.data.toList else if r.k = 4 then chkU r.t.data.toList r.i.data.toList else 0

theorem ba_of (s : ByteArray) : ba s.data.toList = s := rfl

theorem hasMore_any (r : R7) (w : World) : Calls Tryz.prog 67 #[r.val, (bareR r).val] w fun e w' => e = .returned (.bool (moreB r)) ∧ Below w.heap.size w w' := by
  unfold moreB
  by_cases h : SameF r (bareR r)
  · rw [decide_eq_false (fun hn => hn h)]
    exact hasMore_no r _ w h
  · rw [decide_eq_true h]
    exact hasMore_yes r _ w h

set_option maxHeartbeats 2000000 in
set_option maxRecDepth 1000000 in
theorem cc_truth (x : Value) (w : World) : Calls Tryz.prog 68 #[.iface 114 x] w fun e w' => e = .returned (.int .i64 0) ∧ Below w.heap.size w w' := by
  have h1 : ∀ w, (Instr.typeAssert (.iface 114 x) 103 116 true).run Tryz.prog w = .ok (.tuple #[.string ⟨#[]⟩, .bool false]) w := fun w => by kernel_rfl
  have h2 : ∀ w, (Instr.typeAssert (.iface 114 x) 103 117 true).run Tryz.prog w = .ok (.tuple #[.agg #[.string ⟨#[]⟩, .string ⟨#[]⟩], .bool false]) w := fun w => by kernel_rfl
  have h3 : ∀ w, (Instr.typeAssert (.iface 114 x) 103 118 true).run Tryz.prog w = .ok (.tuple #[.slice none 0 0, .bool false]) w := fun w => by kernel_rfl
  go_enter Tryz.func68, Tryz.ntmps68
  go_wp2
  go_ret
  exact ⟨rfl, Below.refl _ _⟩

set_option maxHeartbeats 2000000 in
set_option maxRecDepth 1000000 in
theorem cc_long (x : Value) (w : World) : Calls Tryz.prog 68 #[.iface 115 x] w fun e w' => e = .returned (.int .i64 0) ∧ Below w.heap.size w w' := by
  have h1 : ∀ w, (Instr.typeAssert (.iface 115 x) 103 116 true).run Tryz.prog w = .ok (.tuple #[.string ⟨#[]⟩, .bool false]) w := fun w => by kernel_rfl
  have h2 : ∀ w, (Instr.typeAssert (.iface 115 x) 103 117 true).run Tryz.prog w = .ok (.tuple #[.agg #[.string ⟨#[]⟩, .string ⟨#[]⟩], .bool false]) w := fun w => by kernel_rfl
  have h3 : ∀ w, (Instr.typeAssert (.iface 115 x) 103 118 true).run Tryz.prog w = .ok (.tuple #[.slice none 0 0, .bool false]) w := fun w => by kernel_rfl
  go_enter Tryz.func68, Tryz.ntmps68
  go_wp2
  go_ret
  exact ⟨rfl, Below.refl _ _⟩

set_option maxHeartbeats 2000000 in
set_option maxRecDepth 1000000 in
theorem cc_str (s : ByteArray) (w : World) (hs : s.size ≤ 1099511627776) : Calls Tryz.prog 68 #[.iface 116 (.string s)] w fun e w' => e = .returned (.int .i64 (chkT s.data.toList)) ∧ Below w.heap.size w w' := by
  have h1 : ∀ w, (Instr.typeAssert (.iface 116 (.string s)) 103 116 true).run Tryz.prog w = .ok (.tuple #[.string s, .bool true]) w := fun w => by kernel_rfl
  have C := fun w => checkText_any s w hs
  go_enter Tryz.func68, Tryz.ntmps68
  go_wp2_with fail
  refine (C _).mono ?_
  rintro e w2 ⟨rfl, b2⟩
  go_wp2
  go_ret
  exact ⟨rfl, b2⟩

set_option maxHeartbeats 2000000 in
set_option maxRecDepth 1000000 in
theorem cc_uid (t i : ByteArray) (w : World) (ht : t.size ≤ 1099511627776) (hi : i.size ≤ 1099511627776) : Calls Tryz.prog 68 #[.iface 117 (.agg #[.string t, .string i])] w fun e w' => e = .returned (.int .i64 (chkU t.data.toList i.data.toList)) ∧ Below w.heap.size w w' := by
  have h1 : ∀ w, (Instr.typeAssert (.iface 117 (.agg #[.string t, .string i])) 103 116 true).run Tryz.prog w = .ok (.tuple #[.string ⟨#[]⟩, .bool false]) w := fun w => by kernel_rfl
  have h2 : ∀ w, (Instr.typeAssert (.iface 117 (.agg #[.string t, .string i])) 103 117 true).run Tryz.prog w = .ok (.tuple #[.agg #[.string t, .string i], .bool true]) w := fun w => by kernel_rfl
  have C := fun w => checkUid_any t i w ht hi
  go_enter Tryz.func68, Tryz.ntmps68
  go_wp2_with fail
  have b1 := below1 w (.cells #[.string t, .string i] 117)
  refine (C _).mono ?_
  rintro e w2 ⟨rfl, b2⟩
  go_wp2
  go_ret
  exact ⟨rfl, b1.trans (b2.mono b1.size)⟩

theorem vcheck_flat (r : R7) (w : World) (h5 : r.k ≠ 5) (hs : r.s.size ≤ 1099511627776) (ht : r.t.size ≤ 1099511627776) (hi : r.i.size ≤ 1099511627776) :
    Calls Tryz.prog 57 #[r.val] w fun e w' => e = .returned (.int .i64 (chkFlat r)) ∧ Below w.heap.size w w' := by
  by_cases hk : r.k < 1 ∨ 5 < r.k
  · have e : chkFlat r = 3 := if_pos hk
    rw [e]
    exact vcheck_none r w hk
  · have hK : r.k = 1 ∨ r.k = 2 ∨ r.k = 3 ∨ r.k = 4 := by omega
    have hH := fun w => hasMore_any r w
    rcases hK with h | h | h | h
    · have eb : (bareR r).val = (ofP (.bool r.b)).val := by simp [bareR, h, R7.val, ofP]
      rw [eb] at hH
      exact vcheck_of r (ofP (.bool r.b)) 114 117 (.bool r.b) 0 _ (moreB r) w (fun w => contentOf_kind r _ _ w (.inl ⟨h, rfl, rfl⟩)) (fun w => ta_no _ _ w (by simp)) (mv_truth _) (ev_truth _) (fun w => truthVal_any r.b w) hH (fun _ w' _ => cc_truth _ w') (by rw [chkFlat, if_neg hk, if_neg (by omega : ¬ r.k = 3), if_neg (by omega : ¬ r.k = 4)])
    · have eb : (bareR r).val = (ofP (.long r.n)).val := by simp [bareR, h, R7.val, ofP]
      rw [eb] at hH
      exact vcheck_of r (ofP (.long r.n)) 115 120 (.int .i64 r.n) 0 _ (moreB r) w (fun w => contentOf_kind r _ _ w (.inr (.inl ⟨h, rfl, rfl⟩))) (fun w => ta_no _ _ w (by simp)) (mv_long _) (ev_long _) (fun w => longVal_any r.n w) hH (fun _ w' _ => cc_long _ w') (by rw [chkFlat, if_neg hk, if_neg (by omega : ¬ r.k = 3), if_neg (by omega : ¬ r.k = 4)])
    · have eb : (bareR r).val = (ofP (.str r.s.data.toList)).val := by simp [bareR, h, R7.val, ofP, ba_of]
      rw [eb] at hH
      exact vcheck_of r (ofP (.str r.s.data.toList)) 116 125 (.string r.s) (chkT r.s.data.toList) _ (moreB r) w (fun w => contentOf_kind r _ _ w (.inr (.inr (.inl ⟨h, rfl, rfl⟩)))) (fun w => ta_no _ _ w (by simp)) (mv_str _) (ev_str _) (fun w => strVal_any r.s.data.toList w) hH (fun _ w' _ => cc_str _ w' hs) (by rw [chkFlat, if_neg hk, if_pos h])
    · have eb : (bareR r).val = (ofP (.uid r.t.data.toList r.i.data.toList)).val := by simp [bareR, h, R7.val, ofP, ba_of]
      rw [eb] at hH
      exact vcheck_of r (ofP (.uid r.t.data.toList r.i.data.toList)) 117 130 (.agg #[.string r.t, .string r.i]) (chkU r.t.data.toList r.i.data.toList) _ (moreB r) w (fun w => contentOf_kind r _ _ w (.inr (.inr (.inr (.inl ⟨h, rfl, rfl⟩))))) (fun w => ta_no _ _ w (by simp)) (mv_uid _) (ev_uid _) (fun w => uidVal_any r.t.data.toList r.i.data.toList w) hH (fun _ w' _ => cc_uid _ _ w' ht hi) (by rw [chkFlat, if_neg hk, if_neg (by omega : ¬ r.k = 3), if_pos h])
end Go.Proofs.YtnbbimcooilmdaaGreat
