/-
  Bytes that are owned; chancelref7's Frame and Unframe, chancellaw7's known and within: what they return.
-/
import Derived.Test.YtkeljejddfpnmaaDoorPkH
import Derived.Laws.AppendOwnNone
import Derived.Laws.IdiomStrings
import Derived.Laws.BytesArg
import Derived.Lib.SlBytesConst
namespace Go.Proofs.YtkeljejddfpnmaaDoor
open Go.RowKit Go.Sort

def Shape (ao : Option Addr) (cap : Nat) : Prop := (ao = none ∧ cap = 0) ∨ ∃ a, ao = some a
abbrev Own (w : World) (B : Nat) (v : Value) (l : List UInt8) : Prop := w.ownsRow B 5 1 v l.length (u8s l)
theorem Own.open {w : World} {B : Nat} {v : Value} {l : List UInt8} (h : Own w B v l) : ∃ ao cap, v = .slice ao l.length cap ∧ l.length ≤ cap ∧ Shape ao cap ∧ BRow w ao l ∧ ∀ g o, ao = some ⟨g, o, none⟩ → B ≤ g := by
  rcases h.2 with ⟨h0, hz⟩ | ⟨g, cap, cur, hv, hbg, hg, hnc, _, _, htake⟩
  · have : l = [] := List.eq_nil_of_length_eq_zero hz
    exact ⟨none, 0, by rw [h0, hz], by omega, .inl ⟨rfl, rfl⟩, .inl this, fun g o h => by cases h⟩
  · refine ⟨_, cap, hv, hnc, .inr ⟨_, rfl⟩, .inr ⟨g, 0, rfl, (Array.getElem?_eq_some_iff.1 hg).1, fun j hj => ?_⟩, fun g' o e => by cases e; exact hbg⟩
    rw [Lib.cell_of_heap hg]
    have := u8s_get hj
    rw [← htake, List.getElem?_take, if_pos (by omega)] at this
    simpa using this
theorem own_new (w : World) (l : List UInt8) (hl : l.length ≤ 281474976710656) : Own (w.alloc (.cells (u8s l).toArray 5)) w.heap.size (.slice (some ⟨w.heap.size, 0, none⟩) l.length l.length) l :=
  ⟨by rw [u8s_len, Nat.mul_one], .inr ⟨w.heap.size, l.length, (u8s l).toArray, rfl, Nat.le_refl _, alloc_heap _ _, Nat.le_refl _, by unfold maxLen; omega, by simp [u8s], by rw [List.take_of_length_le (by simp [u8s])]⟩⟩

/-- Bytes laid behind bytes that are owned. -/
theorem app_run {w : World} {B : Nat} {v : Value} {A C : List UInt8} {ao : Option Addr} {m cap : Nat} (ty : TypeId) (h : Own w B v A) (hm : m = C.length) (hs : Shape ao cap) (hr : BRow w ao C) (hl : A.length + C.length ≤ 140737488355328) (hB : B ≤ w.heap.size) :
    ∃ v' w', (Builtin.append_ #[24, 24] ty #[v, .slice ao m cap]).run Tryd.prog w = .ok v' w' ∧ Own w' B v' (A ++ C) ∧ w.grownBy w' v.ownBlock := by
  have hi := infoBz
  cases hq : Tryd.prog.info? 5 with
  | none => rw [hq] at hi; cases hi
  | some i =>
    rw [hq] at hi
    simp only [Option.map_some, Option.some.injEq, Prod.mk.injEq] at hi
    obtain ⟨h1, h2, h3⟩ := hi
    rcases hs with ⟨rfl, rfl⟩ | ⟨ad, rfl⟩
    · have hC : C = [] := by
        rcases hr with hr | ⟨_, _, e, _⟩
        · exact hr
        · cases e
      subst hC
      subst hm
      refine ⟨v, w, run_append_owned_none (P := Tryd.prog) (w := w) B 24 ty 5 i 1 Tryd.underlying24 hq v _ _ h, by simpa using h, rfl, rfl, rfl, Nat.le_refl _, fun _ _ _ => rfl⟩
    · obtain ⟨v', w', a1, a2, a3, _⟩ := run_append_own (P := Tryd.prog) w B 24 ty 5 i (.int .u8 0) 1 1 Tryd.underlying24 hq h1 h2 h3 rfl (by decide) v A.length (u8s A) h ad m cap (u8s C) (by rw [u8s_len, hm, Nat.mul_one])
        (fun j u hj => by
          have hjl : j < C.length := by rw [← u8s_len]; exact (List.getElem?_eq_some_iff.1 hj).1
          rw [u8s_get hjl] at hj
          cases hj
          obtain ⟨g', o', e, _, hc⟩ := hr.get hjl
          cases e
          rw [addr_add]
          exact hc) (fun u hu => by
          simp only [u8s, List.mem_map] at hu
          obtain ⟨b, _, rfl⟩ := hu
          rfl) (by unfold maxLen; omega) (by omega) hB
      refine ⟨v', w', a1, ?_, a3⟩
      unfold Own
      rw [u8s_append, List.length_append, ← hm]
      exact a2
/-- The same, as a law for the walk. -/
theorem wpList_app {ops : Array Oper} {rest : List Oper} {o : Oper} {a : Act} {Q : Exit → Act → World → Prop} {w : World} {B : Nat} {v : Value} {A C : List UInt8} {ao : Option Addr} {m cap : Nat} (hgd : o.guard = none) (s x : Operand)
    (ho : o.op = .call { callee := .builtin .append, args := #[s, x], argTypes := #[24, 24] }) (hs : a.eval s = v) (hx : a.eval x = .slice ao m cap)
    (hown : Own w B v A) (hm : m = C.length) (hsh : Shape ao cap) (hr : BRow w ao C) (hl : A.length + C.length ≤ 140737488355328) (hB : B ≤ w.heap.size)
    (h : ∀ v' w', Own w' B v' (A ++ C) → w.grownBy w' v.ownBlock → wpList Tryd.prog ops Q rest (a.put o.dst v') w') : wpList Tryd.prog ops Q (o :: rest) a w := by
  obtain ⟨v', w', hrun, h1, h2⟩ := app_run o.type hown hm hsh hr hl hB
  refine wpList_plain hgd fun _ hK => ?_
  unfold Oper.wp execOp
  simp only [ho, resolve, invoke, builtin, Sem.run_bind, Sem.run_pure, Result.andThen_ok, List.map_toArray, List.map_cons, List.map_nil, hs, hx, hrun]
  exact hK _ _ (h v' w' h1 h2)
/-- Bytes as a text. -/
theorem conv_run {w : World} {ao : Option Addr} {l : List UInt8} {n : Nat} (cap : Nat) (hn : n = l.length) (h : BRow w ao l) : (convert 24 9 (.slice ao n cap)).run Tryd.prog w = .ok (.string ⟨l.toArray⟩) w := by
  subst hn
  rcases ao with _ | a
  · have hl : l = [] := by
      rcases h with h | ⟨_, _, e, _⟩
      · exact h
      · cases e
    subst hl
    exact run_convert_bytes_nil (P := Tryd.prog) w 24 5 Tryd.underlying24 Tryd.underlying5 0 cap 9 Tryd.underlying9
  · refine run_convert_bytes_back w 24 9 5 a cap l Tryd.underlying24 Tryd.underlying5 Tryd.underlying9 fun j hj => ?_
    obtain ⟨g', o', e, _, hc⟩ := h.get hj
    cases e
    rw [addr_add]
    exact hc

theorem tmod_cases (a n : Int) (hn : 0 < n) : a.tmod n = a % n ∨ a.tmod n + n = a % n := by
  rw [Int.tmod_eq_emod]
  have : ((n.natAbs : Nat) : Int) = n := by omega
  split
  · left; omega
  · right; omega
theorem tmod_pos (a n : Int) (hn : 0 < n) (h : 0 ≤ a.tmod n) : a.tmod n = a % n := by
  have h1 := Int.emod_lt_of_pos a hn
  rcases tmod_cases a n hn with e | e
  · exact e
  · omega
theorem tmod_neg (a n : Int) (hn : 0 < n) (hn1 : n ≤ 4294967296) (h : a.tmod n < 0) : wrap64 (a.tmod n + n) = a % n := by
  have h0 := Int.emod_nonneg a (show n ≠ 0 by omega)
  have h1 := Int.emod_lt_of_pos a hn
  rcases tmod_cases a n hn with e | e
  · omega
  · rw [e]
    simp only [wrap64]
    omega
set_option maxHeartbeats 1000000 in
theorem within7_any (a n : Int) (hn : 0 < n) (hn1 : n ≤ 4294967296) (w : World) :
    Calls Tryd.prog 10 #[.int .i64 a, .int .i64 n] w fun e w' => e = .returned (.int .i64 (a % n)) ∧ w' = w := by
  go_enter Tryd.func10, Tryd.ntmps10
  go_wp2
  · go_ret
    exact ⟨ret_int (tmod_neg a n hn hn1 (by assumption)), rfl⟩
  · go_ret
    exact ⟨ret_int (tmod_pos a n hn (by assumption)), rfl⟩

set_option maxRecDepth 100000 in
theorem crc_example : crcL [49, 50, 51, 52, 53, 54, 55, 56, 57] = 3808858755 := by decide +kernel
set_option maxHeartbeats 1000000 in
theorem known7_any (w : World) (hT : Half w) : Calls Tryd.prog 6 #[] w fun e w' => e = .returned (.bool true) ∧ Below w.heap.size w w' := by
  have b1 := new1 w (.cells (u8s [49, 50, 51, 52, 53, 54, 55, 56, 57]).toArray 5 (9, 10))
  have C := crc_any [49, 50, 51, 52, 53, 54, 55, 56, 57] (some ⟨w.heap.size, 0, none⟩) 9 _ (by decide) (row_of_block (alloc_heap w (.cells (u8s [49, 50, 51, 52, 53, 54, 55, 56, 57]).toArray 5 (9, 10)))) (hT.below b1)
  rw [crc_example] at C
  have hcv := Lib.run_convert_bytes_const (P := Tryd.prog) w 24 5 #[.int .u8 49, .int .u8 50, .int .u8 51, .int .u8 52, .int .u8 53, .int .u8 54, .int .u8 55, .int .u8 56, .int .u8 57] 9 9 Tryd.underlying24 Tryd.underlying5
  go_enter Tryd.func6, Tryd.ntmps6
  go_wp2_with fail
  refine Calls.mono C ?_
  rintro e w1 ⟨rfl, rfl⟩
  go_wp2
  go_ret
  exact ⟨rfl, b1⟩
end Go.Proofs.YtkeljejddfpnmaaDoor
