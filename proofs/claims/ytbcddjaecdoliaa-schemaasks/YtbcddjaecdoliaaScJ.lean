/-
  chancellaw10.within, known: what they return.
-/
import Derived.Test.YtbcddjaecdoliaaScI
import Derived.Test.YtbcddjaecdoliaaW5A
namespace Go.Proofs.Ytbcddjaecdoliaa
open Go.RowKit Go.Sort

set_option maxRecDepth 1000000 in
theorem within10_any (a n : Int) (hn : 0 < n) (hn1 : n ≤ 4294967296) (w : World) :
    Calls Try.prog 14 #[.int .i64 a, .int .i64 n] w fun e w' => e = .returned (.int .i64 (a % n)) ∧ w' = w := by
  go_enter Try.func14, Try.ntmps14
  go_wp2
  · go_ret
    exact ⟨ret_int5 (tmod_neg a n hn hn1 (by assumption)), rfl⟩
  · go_ret
    exact ⟨ret_int5 (tmod_pos a n hn (by assumption)), rfl⟩

theorem isAs_nil (w : World) (ao : Option Addr) : IsAs w ao [] := ⟨⟨[], rfl, rowG_nil _ _ _, fun _ h => absurd h (Nat.not_lt_zero _)⟩⟩
theorem isKs_nil (w : World) (ao : Option Addr) : IsKs w ao [] := ⟨⟨[], rfl, rowG_nil _ _ _, fun _ h => absurd h (Nat.not_lt_zero _)⟩⟩
theorem small_of {s : SP} (h1 : s.ks.length ≤ 281474976710656) (h2 : s.ac.length ≤ 281474976710656) (h3 : ∀ k ∈ s.ks, SmallK k) (h4 : ∀ k ∈ s.ac, SmallA k) : SmallAll s := ⟨⟨h1, h2⟩, fun _ h => h3 _ (List.getElem_mem h), fun _ h => h4 _ (List.getElem_mem h)⟩
theorem rowS_nil (w : World) (ao : Option Addr) : RowS w ao [] := rowG_nil _ _ _
theorem rowF_nil (w : World) (ao : Option Addr) : RowF w ao [] := rowG_nil _ _ _
theorem isK_bare (w : World) (n : ByteArray) : IsK w ⟨n, none, 0, 0, none, 0, 0⟩ ⟨n, [], []⟩ := ⟨rfl, rfl, rowS_nil _ _, rfl, rowF_nil _ _⟩
theorem smallK_bare (n : ByteArray) (h : n.size ≤ 281474976710656) : SmallK ⟨n, [], []⟩ := ⟨h, Nat.zero_le _, Nat.zero_le _, fun _ h => absurd h (Nat.not_lt_zero _)⟩
/-- A block of cells holds a row. -/
theorem rowG_block {w : World} {b : Nat} {t : TypeId} {fz : Nat × Nat} {n : Nat} {l : List (List Value)} (cs : Array Value) (h : w.heap[b]? = some (.cells cs t fz)) (hc : cs.toList = l.flatten) (hn : ∀ x ∈ l, x.length = n) : RowG w (some ⟨b, 0, none⟩) n l := by
  intro j hj
  have hbs : b < w.heap.size := (Array.getElem?_eq_some_iff.1 h).1
  refine ⟨b, 0, rfl, hbs, fun c v hv => ?_⟩
  rw [Lib.cell_of_heap h]
  have hcl : c < (l[j]).length := (List.getElem?_eq_some_iff.1 hv).1
  have key : ∀ (l : List (List Value)) (j : Nat) (hj : j < l.length), (∀ x ∈ l, x.length = n) → l.flatten[j * n + c]? = (l[j])[c]? ∨ ¬ c < (l[j]).length := fun l => by
    induction l with
    | nil => intro j hj; exact absurd hj (Nat.not_lt_zero _)
    | cons a l ih =>
      intro j hj hn
      cases j with
      | zero =>
        by_cases hc : c < a.length
        · left
          rw [Nat.zero_mul, Nat.zero_add, List.flatten_cons, List.getElem?_append_left hc]
          rfl
        · exact .inr hc
      | succ j =>
        have ha := hn a (List.mem_cons_self ..)
        rcases ih j (by simpa using hj) (fun x hx => hn x (List.mem_cons_of_mem _ hx)) with h | h
        · left
          rw [List.flatten_cons, List.getElem?_append_right (by rw [ha, Nat.succ_mul]; omega), ha, show (j + 1) * n + c - n = j * n + c by rw [Nat.succ_mul]; omega]
          exact h
        · exact .inr h
  rcases key l j hj hn with h1 | h1
  · rw [Nat.zero_add, ← Array.getElem?_toList, hc, h1]
    exact hv
  · exact absurd hcl h1

set_option maxHeartbeats 2000000 in
set_option maxRecDepth 1000000 in
theorem known10_any (w : World) : Calls Try.prog 8 #[] w fun e w' => e = .returned (.bool true) ∧ Below w.heap.size w w' := by
  have C1 := fun w => scheck_any ⟨[], []⟩ (.agg #[.slice none 0 0, .slice none 0 0]) w (small_of (Nat.zero_le _) (Nat.zero_le _) (fun _ h => by cases h) (fun _ h => by cases h)) ⟨⟨none, 0, none, 0, rfl, isKs_nil _ _, isAs_nil _ _⟩⟩
  have e1 : checkS ⟨[], []⟩ = 0 := by decide
  rw [e1] at C1
  have C2 := fun (w : World) => scheck_any ⟨[⟨⟨#[66, 111, 111, 108]⟩, [], []⟩], []⟩ (.agg #[.slice (some ⟨w.heap.size, 0, none⟩) 1 1, .slice none 0 0]) (w.alloc (.cells #[.string ⟨#[66, 111, 111, 108]⟩, .slice none 0 0, .slice none 0 0] 42)) (small_of (by decide) (Nat.zero_le _) (fun k h => by
    rw [List.mem_singleton.1 h]
    exact smallK_bare _ (by decide)) (fun _ h => by cases h)) ⟨⟨some ⟨w.heap.size, 0, none⟩, 1, none, 0, rfl, ⟨⟨[⟨⟨#[66, 111, 111, 108]⟩, none, 0, 0, none, 0, 0⟩], rfl, rowG_block _ (alloc_heap _ _) rfl (fun x h => by rw [List.mem_singleton.1 h]; rfl), fun j h h' => by
      obtain rfl : j = 0 := by simpa using h
      exact isK_bare _ _⟩⟩, isAs_nil _ _⟩⟩
  have e2 : checkS ⟨[⟨⟨#[66, 111, 111, 108]⟩, [], []⟩], []⟩ = 15 := by decide
  rw [e2] at C2
  clear e1 e2
  go_enter Try.func8, Try.ntmps8
  go_wp2_with fail
  refine (C1 w).mono ?_
  clear C1
  rintro x w1 ⟨rfl, b1⟩
  have C2 := C2 w1
  have b2 := b1.alloc b1.size (.cells #[.string ⟨#[66, 111, 111, 108]⟩, .slice none 0 0, .slice none 0 0] 42)
  go_wp2_with fail
  generalize w1.alloc _ = w2 at *
  refine C2.mono ?_
  clear C2
  rintro x w3 ⟨rfl, b3⟩
  go_wp2
  go_ret
  exact ⟨rfl, b2.trans (b3.mono b2.size)⟩
end Go.Proofs.Ytbcddjaecdoliaa
