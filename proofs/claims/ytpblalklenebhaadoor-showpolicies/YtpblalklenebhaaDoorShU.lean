/-
  value.Text of a uid, show.Uid.
-/
import Derived.Test.YtpblalklenebhaaDoorShC
import Derived.Test.YtpblalklenebhaaDoorQuote
import Derived.Test.YtpblalklenebhaaDoorVcA
namespace Go.Proofs.YtpblalklenebhaaDoor
open Go.RowKit Go.Sort

theorem quo_len : ∀ (n : Nat) (l : List UInt8), l.length ≤ n → ((runes l).flatMap quoL).length ≤ 6 * l.length
  | 0, l, h => by
    have : l = [] := List.length_eq_zero_iff.1 (by omega)
    subst this
    simp [runes_nil]
  | n + 1, l, h => by
    by_cases h0 : l = []
    · subst h0
      simp [runes_nil]
    · have hp := dec_pos l
      have hl : 0 < l.length := List.length_pos_iff.2 h0
      have ih := quo_len n (l.drop (Lib.decodeL l).2) (by rw [List.length_drop]; omega)
      have hq := quoL_len ((Lib.decodeL l).1 : Int)
      rw [runes_cons l h0, List.flatMap_cons, List.length_append]
      rw [List.length_drop] at ih
      omega
theorem quoteL_len (l : List UInt8) : (quoteL l).length ≤ 6 * l.length + 2 := by
  have := quo_len l.length l (Nat.le_refl _)
  unfold quoteL
  rw [List.length_cons, List.length_append]
  simp only [List.length_cons, List.length_nil]
  omega

theorem quoteS (s : List UInt8) (w : World) (hT : Tab6 w) (hs : s.length ≤ 1099511627776) :
    Calls Tryd.prog 23 #[.string (ba s)] w fun e w' => e = .returned (.string (ba (quoteL s))) ∧ Below w.heap.size w w' :=
  quote_any (ba s) w (by rw [ba_size]; exact hs) hT.2.1 hT.2.2

theorem mw_uid (v : Value) (w : World) : (method 238 98 v "chancel/value.written").run Tryd.prog w = .ok (103, v) w := by kernel_rfl
theorem ew_uid (v : Array Value) (w : World) : (callFunc 103 v).run Tryd.prog w = .ok (.enter 103 v) w := by kernel_rfl

set_option maxHeartbeats 1000000 in
set_option maxRecDepth 1000000 in
theorem uidWr_any (t i : List UInt8) (w : World) (hT : Tab6 w) (ht : t.length ≤ 1000000000) (hi : i.length ≤ 1000000000) :
    Calls Tryd.prog 103 #[.agg #[.string (ba t), .string (ba i)]] w fun e w' => e = .returned (.string (ba t ++ ⟨#[58, 58]⟩ ++ ba (quoteL i))) ∧ Below w.heap.size w w' := by
  have n1 := newS w (.cells #[.string (ba t), .string (ba i)] 98)
  have Z1 : (w.alloc (.cells #[.string (ba t), .string (ba i)] 98)).heap[w.heap.size]? = some (.cells #[.string (ba t), .string (ba i)] 98 (0, 0)) := alloc_heap _ _
  have Q := fun w' (h : Below w.heap.size w w') => quoteS i w' (hT.below h) (by omega)
  have s1 : (ba t).size ≤ 1000000000 := by rw [ba_size]; exact ht
  have s2 : (ba (quoteL i)).size ≤ 7000000000 := by rw [ba_size]; have := quoteL_len i; omega
  generalize ba t = T at *
  generalize ba (quoteL i) = QI at *
  generalize ba i = I at *
  have g1 : ¬ 9223372036854775807 < T.size + 2 := by omega
  have g2 : ¬ 9223372036854775807 < T.size + 2 + QI.size := by omega
  clear hT ht hi s1 s2
  go_enter Tryd.func103, Tryd.ntmps103
  go_upto_region 1 with fail
  generalize w.alloc _ = w1 at *
  have x0 : w1.cell? ⟨w.heap.size, 0, none⟩ = some (.string T) := by rw [Lib.cell_of_heap Z1]; rfl
  have x1 : w1.cell? ⟨w.heap.size, 1, none⟩ = some (.string I) := by rw [Lib.cell_of_heap Z1]; rfl
  have z0 := cell_regrown x0
  have z1 := cell_regrown x1
  have cA := fun d os => Calls.regrown_of (w := w1) (d := d) (os := os) (Q (grow (redrawn w1 d) os) (n1.trans ((below_regrown w1 d os).mono n1.size)))
  clear x0 x1 Q Z1
  refine wp_region_quiet_below (by kernel_rfl) (by kernel_rfl) ?_
  repeat (quiet_step (exact cA _ _))
  clear cA
  refine wpQuiet_nil ?_
  intro _ hw'
  obtain ⟨⟨dq, osq⟩, hw''⟩ := hw'
  subst hw''
  have b3 := n1.trans ((below_regrown w1 dq osq).mono n1.size)
  generalize grow (redrawn w1 dq) osq = w4 at *
  clear z0 z1
  go_wp2
  go_ret
  exact ⟨rfl, b3⟩

set_option maxHeartbeats 1000000 in
set_option maxRecDepth 1000000 in
theorem vtext_uid (t i : List UInt8) (w : World) (hT : Tab6 w) (ht : t.length ≤ 1000000000) (hi : i.length ≤ 1000000000) :
    Calls Tryd.prog 41 #[val7 4 false 0 ⟨#[]⟩ (ba t) (ba i) (.slice none 0 0)] w fun e w' => e = .returned (.string (ba t ++ ⟨#[58, 58]⟩ ++ ba (quoteL i))) ∧ Below w.heap.size w w' := by
  have C1 : ∀ w, Calls Tryd.prog 55 #[val7 4 false 0 ⟨#[]⟩ (ba t) (ba i) (.slice none 0 0)] w fun e w' => e = .returned (.iface 98 (.agg #[.string (ba t), .string (ba i)])) ∧ Below w.heap.size w w' := fun w => contentOf_plain (.uid t i) (.slice none 0 0) w
  have C2 := fun w' (h : Below w.heap.size w w') => uidWr_any t i w' (hT.below h) ht hi
  have hM := mw_uid (.agg #[.string (ba t), .string (ba i)])
  have hE := ew_uid #[.agg #[.string (ba t), .string (ba i)]]
  unfold val7 at C1 ⊢
  have n1 := newS w (.cells #[.int .i64 4, .bool false, .int .i64 0, .string ⟨#[]⟩, .string (ba t), .string (ba i), .slice none 0 0] 72)
  generalize ba t ++ ⟨#[58, 58]⟩ ++ ba (quoteL i) = X at *
  generalize ba t = T at *
  generalize ba i = I at *
  clear hT ht hi
  go_enter Tryd.func41, Tryd.ntmps41
  go_wp2_with fail
  generalize w.alloc _ = w1 at *
  refine (C1 w1).mono ?_
  rintro e w2 ⟨rfl, b12⟩
  have b2 := n1.trans (b12.mono n1.size)
  go_wp2_with fail
  refine (C2 w2 b2).mono ?_
  rintro e w3 ⟨rfl, b23⟩
  go_wp2
  go_ret
  exact ⟨rfl, b2.trans (b23.mono b2.size)⟩

set_option maxHeartbeats 1000000 in
set_option maxRecDepth 1000000 in
theorem suid_any (t i : List UInt8) (w : World) (hT : Tab6 w) (ht : t.length ≤ 1000000000) (hi : i.length ≤ 1000000000) :
    Calls Tryd.prog 16 #[.agg #[.string (ba t), .string (ba i)]] w fun e w' => e = .returned (.string (ba t ++ ⟨#[58, 58]⟩ ++ ba (quoteL i))) ∧ Below w.heap.size w w' := by
  have n1 := newS w (.cells #[.string (ba t), .string (ba i)] 29)
  have V := vtext_uid t i _ (hT.below n1) ht hi
  unfold val7 at V
  generalize ba t ++ ⟨#[58, 58]⟩ ++ ba (quoteL i) = X at *
  generalize ba t = T at *
  generalize ba i = I at *
  clear hT ht hi
  go_enter Tryd.func16, Tryd.ntmps16
  go_wp2_with fail
  generalize w.alloc _ = w1 at *
  refine V.mono ?_
  rintro e w2 ⟨rfl, b2⟩
  go_wp2
  go_ret
  exact ⟨rfl, n1.trans (b2.mono n1.size)⟩
end Go.Proofs.YtpblalklenebhaaDoor
