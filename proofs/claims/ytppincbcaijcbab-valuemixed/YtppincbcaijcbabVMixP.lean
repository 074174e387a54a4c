/-
  chancellaw3.ValueMixed: what its slots hold; Holds of a value that is no set.
-/
import Derived.Test.YtppincbcaijcbabVcU
import Derived.Test.YtppincbcaijcbabVdC
import Derived.Test.YtppincbcaijcbabVeC
import Derived.Test.YtppincbcaijcbabVeL
import Derived.Test.YtppincbcaijcbabVArgs
namespace Go.Proofs.Ytppincbcaijcbab
open Go.RowKit Go.Sort

theorem put_get (a : Act) (d s : Nat) (v : Value) : (a.put (some d) v).tmps.getD s undef = a.tmps.getD s undef ∨ (s = d ∧ (a.put (some d) v).tmps.getD s undef = v) := by
  by_cases h : d = s
  · subst h
    by_cases hs : d < a.tmps.size
    · exact .inr ⟨rfl, put_same a d v hs⟩
    · left
      simp [Act.put, hs]
  · exact .inl (put_other a d s v h)

/-- Two slots that hold blocks of their own. -/
structure TwoNew (s t : Nat) (w0 : World) (a : Act) (w : World) : Prop where
  below : Below w0.heap.size w0 w
  one : ∀ b, a.tmps.getD s undef = .pointer (some ⟨b, 0, none⟩) → b < w.heap.size
  two : ∀ b, a.tmps.getD t undef = .pointer (some ⟨b, 0, none⟩) → b < w.heap.size
  ne : ∀ b c, a.tmps.getD s undef = .pointer (some ⟨b, 0, none⟩) → a.tmps.getD t undef = .pointer (some ⟨c, 0, none⟩) → b ≠ c

theorem TwoNew.other {s t : Nat} {w0 : World} {a : Act} {w w' : World} (h : TwoNew s t w0 a w) (hb : Below w.heap.size w w') (d : Nat) (v : Value) (h1 : d ≠ s) (h2 : d ≠ t) : TwoNew s t w0 (a.put (some d) v) w' := by
  have z := hb.size
  refine ⟨h.below.trans (hb.mono h.below.size), fun b hb => ?_, fun b hb => ?_, fun b c hb hc => ?_⟩
  · rw [put_other _ _ _ _ h1] at hb
    have := h.one b hb
    omega
  · rw [put_other _ _ _ _ h2] at hb
    have := h.two b hb
    omega
  · rw [put_other _ _ _ _ h1] at hb
    rw [put_other _ _ _ _ h2] at hc
    exact h.ne b c hb hc

theorem TwoNew.first {s t : Nat} {w0 : World} {a : Act} {w : World} (h : TwoNew s t w0 a w) (hst : s ≠ t) (o : Obj) : TwoNew s t w0 (a.put (some s) (.pointer (some ⟨w.heap.size, 0, none⟩))) (w.alloc o) := by
  have z := size1 w o
  refine ⟨h.below.alloc h.below.size _, fun b hb => ?_, fun b hb => ?_, fun b c hb hc => ?_⟩
  · rcases put_get a s s (.pointer (some ⟨w.heap.size, 0, none⟩)) with e | ⟨_, e⟩
    · rw [e] at hb
      have := h.one b hb
      omega
    · rw [e] at hb
      injection hb with hb
      injection hb with hb
      injection hb with hb
      omega
  · rw [put_other _ _ _ _ hst] at hb
    have := h.two b hb
    omega
  · rw [put_other _ _ _ _ hst] at hc
    rcases put_get a s s (.pointer (some ⟨w.heap.size, 0, none⟩)) with e | ⟨_, e⟩
    · rw [e] at hb
      exact h.ne b c hb hc
    · rw [e] at hb
      injection hb with hb
      injection hb with hb
      injection hb with hb
      have := h.two c hc
      omega

theorem TwoNew.second {s t : Nat} {w0 : World} {a : Act} {w : World} (h : TwoNew s t w0 a w) (hst : s ≠ t) (o : Obj) : TwoNew s t w0 (a.put (some t) (.pointer (some ⟨w.heap.size, 0, none⟩))) (w.alloc o) := by
  have z := size1 w o
  refine ⟨h.below.alloc h.below.size _, fun b hb => ?_, fun b hb => ?_, fun b c hb hc => ?_⟩
  · rw [put_other _ _ _ _ (Ne.symm hst)] at hb
    have := h.one b hb
    omega
  · rcases put_get a t t (.pointer (some ⟨w.heap.size, 0, none⟩)) with e | ⟨_, e⟩
    · rw [e] at hb
      have := h.two b hb
      omega
    · rw [e] at hb
      injection hb with hb
      injection hb with hb
      injection hb with hb
      omega
  · rw [put_other _ _ _ _ (Ne.symm hst)] at hb
    rcases put_get a t t (.pointer (some ⟨w.heap.size, 0, none⟩)) with e | ⟨_, e⟩
    · rw [e] at hc
      exact h.ne b c hb hc
    · rw [e] at hc
      injection hc with hc
      injection hc with hc
      injection hc with hc
      have := h.one b hb
      omega

/-- A block of a Value that was laid here: its cells are there, and can be written. -/
structure Fresh7 (B : Nat) (w : World) (b : Nat) : Prop where
  ge : B ≤ b
  lt : b < w.heap.size
  cells : At7 w b 0 zero7
  free : ∀ o, w.frozen? ⟨b, o, none⟩ = false

theorem Fresh7.below {B : Nat} {w w' : World} {b : Nat} (h : Fresh7 B w b) (hb : Below w.heap.size w w') : Fresh7 B w' b :=
  ⟨h.ge, Nat.lt_of_lt_of_le h.lt hb.size, h.cells.below hb h.lt, fun o => (hb.frozen (p := ⟨b, o, none⟩) h.lt).trans (h.free o)⟩

theorem fresh7_new {B : Nat} (w : World) (hB : B ≤ w.heap.size) : Fresh7 B (w.alloc (.cells #[.int .i64 0, .bool false, .int .i64 0, .string ⟨#[]⟩, .string ⟨#[]⟩, .string ⟨#[]⟩, .slice none 0 0] 28)) w.heap.size :=
  ⟨hB, by simp, at7_new w zero7, fun o => by simp⟩

/-- What each slot of the region holds. -/
def mixSp (B : Nat) (raw raw' : Value) (p q : Nat) (x y : Value) : Nat → Value → World → Prop
  | 0, v, _ => v = raw
  | 1, v, _ => v = .int .i64 p
  | 2, v, _ => v = x
  | 3, v, _ => v = raw'
  | 4, v, _ => v = .int .i64 q
  | 5, v, _ => v = y
  | 6, v, w => ∃ b, v = .pointer (some ⟨b, 0, none⟩) ∧ Fresh7 B w b
  | 7, v, w => ∃ b, v = .pointer (some ⟨b, 0, none⟩) ∧ Fresh7 B w b
  | _, _, _ => True

theorem mixSp_up {B : Nat} {raw raw' : Value} {p q : Nat} {x y : Value} {w w' : World} (hb : Below w.heap.size w w') : ∀ j u, mixSp B raw raw' p q x y j u w → mixSp B raw raw' p q x y j u w'
  | 0, _, h => h
  | 1, _, h => h
  | 2, _, h => h
  | 3, _, h => h
  | 4, _, h => h
  | 5, _, h => h
  | 6, _, ⟨b, e, h⟩ => ⟨b, e, h.below hb⟩
  | 7, _, ⟨b, e, h⟩ => ⟨b, e, h.below hb⟩
  | _ + 8, _, _ => trivial

/-- A Value's seven cells, written. -/
theorem at7_set {w : World} {b : Nat} {r0 : R7} (h : At7 w b 0 r0) (r : R7) :
    At7 (((((((w.setCell ⟨b, 0, none⟩ (.int .i64 r.k)).setCell ⟨b, 1, none⟩ (.bool r.b)).setCell ⟨b, 2, none⟩ (.int .i64 r.n)).setCell ⟨b, 3, none⟩ (.string r.s)).setCell ⟨b, 4, none⟩ (.string r.t)).setCell ⟨b, 5, none⟩ (.string r.i)).setCell ⟨b, 6, none⟩ (.slice r.lo r.ll r.lc)) b 0 r := by
  obtain ⟨a0, a1, a2, a3, a4, a5, a6⟩ := h
  simp only [Nat.zero_add] at a1 a2 a3 a4 a5 a6
  exact ⟨by simp [go_sem, a0], by simp [go_sem, a1], by simp [go_sem, a2], by simp [go_sem, a3], by simp [go_sem, a4], by simp [go_sem, a5], by simp [go_sem, a6]⟩

theorem at7_other {w : World} {b c : Nat} {r0 : R7} (h : At7 w b 0 r0) (hne : c ≠ b) (v0 v1 v2 v3 v4 v5 v6 : Value) :
    At7 (((((((w.setCell ⟨c, 0, none⟩ v0).setCell ⟨c, 1, none⟩ v1).setCell ⟨c, 2, none⟩ v2).setCell ⟨c, 3, none⟩ v3).setCell ⟨c, 4, none⟩ v4).setCell ⟨c, 5, none⟩ v5).setCell ⟨c, 6, none⟩ v6) b 0 r0 := by
  obtain ⟨a0, a1, a2, a3, a4, a5, a6⟩ := h
  simp only [Nat.zero_add] at a1 a2 a3 a4 a5 a6
  exact ⟨by simp [go_sem, a0], by simp [go_sem, a1], by simp [go_sem, a2], by simp [go_sem, a3], by simp [go_sem, a4], by simp [go_sem, a5], by simp [go_sem, a6]⟩

theorem ta_flat (T : TypeId) (x : Value) (w : World) (h : T = 66 ∨ T = 67 ∨ T = 68 ∨ T = 69) : (Instr.typeAssert (.iface T x) 48 57 true).run Try.prog w = .ok (.tuple #[.slice none 0 0, .bool false]) w := by
  rcases h with rfl | rfl | rfl | rfl <;> kernel_rfl

theorem con_flat (p : PV) : ∃ T x, conP p = .iface T x ∧ (T = 66 ∨ T = 67 ∨ T = 68 ∨ T = 69) := by
  cases p <;> exact ⟨_, _, rfl, by simp⟩

set_option maxHeartbeats 2000000 in
set_option maxRecDepth 1000000 in
theorem holds_flat (p : PV) (r : R7) (w : World) :
    Calls Try.prog 10 #[(ofP p).val, r.val] w fun e w' => e = .returned (.bool false) ∧ Below w.heap.size w w' := by
  have C : ∀ w, Calls Try.prog 16 #[(ofP p).val] w fun e w' => e = .returned (conP p) ∧ Below w.heap.size w w' := fun w => by
    have := contentOf_plain p (.slice none 0 0) w
    cases p <;> exact this
  obtain ⟨T, x, hc, hT⟩ := con_flat p
  rw [hc] at C
  have TA := fun w => ta_flat T x w hT
  clear hc hT
  generalize ofP p = r0 at *
  unfold R7.val at *
  go_enter Try.func10, Try.ntmps10
  go_wp2_with fail
  have b1 := below2 w (.cells #[.int .i64 r0.k, .bool r0.b, .int .i64 r0.n, .string r0.s, .string r0.t, .string r0.i, .slice r0.lo r0.ll r0.lc] 28) (.cells #[.int .i64 r.k, .bool r.b, .int .i64 r.n, .string r.s, .string r.t, .string r.i, .slice r.lo r.ll r.lc] 28)
  refine (C _).mono ?_
  rintro e w3 ⟨rfl, b23⟩
  have TA3 := TA w3
  clear TA C
  go_wp2
  go_ret
  exact ⟨rfl, b1.trans (b23.mono b1.size)⟩
end Go.Proofs.Ytppincbcaijcbab
