/-
  chancellaw10.SchemaTypes: a field's type in two kinds (no walk in it).
-/
import Derived.Test.YtckjafmnaffggaaScJ
namespace Go.Proofs.Ytckjafmnaffggaa
open Go.RowKit Go.Sort

def sA : ByteArray := ⟨#[65]⟩
def sB : ByteArray := ⟨#[66]⟩
def sf : ByteArray := ⟨#[102]⟩
def twoK (k o : Int) (tn : ByteArray) : SP := ⟨[⟨⟨#[65]⟩, [], [⟨⟨#[102]⟩, k, o, tn⟩]⟩, ⟨⟨#[66]⟩, [], []⟩], []⟩
theorem check_two (k o : Int) (tn : ByteArray) : checkS (twoK k o tn) = typeC [⟨#[65]⟩, ⟨#[66]⟩] ⟨⟨#[102]⟩, k, o, tn⟩ := by
  have e0 : (twoK k o tn).names = [⟨#[65]⟩, ⟨#[66]⟩] := rfl
  have e1 : nameC ⟨#[65]⟩ ⟨#[]⟩ = 0 := by unfold nameC leB; simp only [ByteArray.toList_eq]; decide
  have e2 : nameC ⟨#[66]⟩ ⟨#[65]⟩ = 0 := by unfold nameC leB; simp only [ByteArray.toList_eq]; decide
  have e3 : nameC ⟨#[102]⟩ ⟨#[]⟩ = 0 := by unfold nameC leB; simp only [ByteArray.toList_eq]; decide
  have t1 : takenB ⟨#[65]⟩ = false := by decide
  have t2 : takenB ⟨#[66]⟩ = false := by decide
  unfold checkS
  rw [e0]
  generalize ht : typeC [⟨#[65]⟩, ⟨#[66]⟩] ⟨⟨#[102]⟩, k, o, tn⟩ = z
  unfold twoK
  by_cases hz : z = 0
  · simp [kindsC, kindC, areC, fieldsC, actsC, e1, e2, e3, t1, t2, ht, hz]
  · simp [kindsC, kindC, areC, fieldsC, e1, e3, t1, ht, hz]
theorem rowF_one {w : World} {b : Nat} {f : F4} (h : AtF4 w b 0 f) (hb : b < w.heap.size) : RowF w (some ⟨b, 0, none⟩) [f] := by
  intro j hj
  obtain rfl : j = 0 := by simpa using hj
  refine ⟨b, 0, rfl, hb, fun c v hv => ?_⟩
  match c, hv with
  | 0, hv => injection hv with e; subst e; exact h.c0
  | 1, hv => injection hv with e; subst e; exact h.c1
  | 2, hv => injection hv with e; subst e; exact h.c2
  | 3, hv => injection hv with e; subst e; exact h.c3
theorem rowN_two {w : World} {b : Nat} {x y : N3} (h : AtN3 w b 0 x) (h' : AtN3 w b 3 y) (hb : b < w.heap.size) : RowG w (some ⟨b, 0, none⟩) 3 ([x, y].map N3.cells) := by
  intro j hj
  have hj2 : j = 0 ∨ j = 1 := by
    have : j < 2 := hj
    omega
  rcases hj2 with rfl | rfl
  · refine ⟨b, 0, rfl, hb, fun c v hv => ?_⟩
    match c, hv with
    | 0, hv => injection hv with e; subst e; exact h.c0
    | 1, hv => injection hv with e; subst e; exact h.c1
    | 2, hv => injection hv with e; subst e; exact h.c2
  · refine ⟨b, 0, rfl, hb, fun c v hv => ?_⟩
    match c, hv with
    | 0, hv => injection hv with e; subst e; exact h'.c0
    | 1, hv => injection hv with e; subst e; exact h'.c1
    | 2, hv => injection hv with e; subst e; exact h'.c2
theorem two_is {w : World} {F K kc : Nat} {k o : Int} {tn : ByteArray} (hF : AtF4 w F 0 ⟨⟨#[102]⟩, k, o, tn⟩) (hK : AtN3 w K 0 ⟨⟨#[65]⟩, none, 0, 0, some ⟨F, 0, none⟩, 1, 1⟩) (hK' : AtN3 w K 3 ⟨⟨#[66]⟩, none, 0, 0, none, 0, 0⟩) (hf : F < w.heap.size) (hk : K < w.heap.size) : IsS w (.agg #[.slice (some ⟨K, 0, none⟩) 2 kc, .slice none 0 0]) (twoK k o tn) :=
  ⟨⟨_, kc, none, 0, rfl, ⟨⟨[_, _], rfl, rowN_two hK hK' hk, fun j h h' => by
    have hj2 : j = 0 ∨ j = 1 := by
      have : j < 2 := h
      omega
    rcases hj2 with rfl | rfl
    · exact ⟨rfl, rfl, rowS_nil _ _, rfl, rowF_one hF hf⟩
    · exact isK_bare _ _⟩⟩, isAs_nil _ _⟩⟩
theorem small_two (k o : Int) (tn : ByteArray) : SmallAll (twoK k o tn) := small_of (by show 2 ≤ _; omega) (Nat.zero_le _) (fun q h => by
    have h : q ∈ [(⟨⟨#[65]⟩, [], [⟨⟨#[102]⟩, k, o, tn⟩]⟩ : KP), ⟨⟨#[66]⟩, [], []⟩] := h
    rcases List.mem_cons.1 h with rfl | h
    · refine ⟨(by show 1 ≤ _; omega), Nat.zero_le _, (by show 1 ≤ _; omega), fun j hj => ?_⟩
      obtain rfl : j = 0 := by simpa using hj
      show 1 ≤ _
      omega
    · rw [List.mem_singleton.1 h]
      exact smallK_bare _ (by decide)) (fun _ h => by cases h)
theorem two_any (k o : Int) (tn : ByteArray) (v : Value) (w : World) (hs : IsS w v (twoK k o tn)) : Calls Try.prog 12 #[v] w fun e w' => e = .returned (.int .i64 (typeC [⟨#[65]⟩, ⟨#[66]⟩] ⟨⟨#[102]⟩, k, o, tn⟩)) ∧ Below w.heap.size w w' := by
  have := scheck_any _ v w (small_two k o tn) hs
  rwa [check_two] at this
set_option maxRecDepth 1000000 in
theorem two_call (w1 : World) (o1 o2 : Obj) (k o : Int) (tn : ByteArray) : Calls Try.prog 12 #[.agg #[.slice (some ⟨w1.heap.size + 1 + 1 + 1, 0, none⟩) 2 2, .slice none 0 0]] (((((w1.alloc o1).alloc o2).alloc (.cells #[.string ⟨#[102]⟩, .int .i64 k, .int .i64 o, .string tn] 31)).alloc (.cells #[.string ⟨#[65]⟩, .slice none 0 0, .slice (some ⟨w1.heap.size + 1 + 1, 0, none⟩) 1 1, .string ⟨#[66]⟩, .slice none 0 0, .slice none 0 0] 42)).alloc (.cells #[.slice (some ⟨w1.heap.size + 1 + 1 + 1, 0, none⟩) 2 2, .slice none 0 0] 25)) fun e w' => e = .returned (.int .i64 (typeC [⟨#[65]⟩, ⟨#[66]⟩] ⟨⟨#[102]⟩, k, o, tn⟩)) ∧ Below w1.heap.size w1 w' := by
  have B := ((((blw1 w1 o1).alloc (by simp) o2).alloc (by simp; omega) (.cells #[.string ⟨#[102]⟩, .int .i64 k, .int .i64 o, .string tn] 31)).alloc (by simp; omega) (.cells #[.string ⟨#[65]⟩, .slice none 0 0, .slice (some ⟨w1.heap.size + 1 + 1, 0, none⟩) 1 1, .string ⟨#[66]⟩, .slice none 0 0, .slice none 0 0] 42)).alloc (by simp; omega) (.cells #[.slice (some ⟨w1.heap.size + 1 + 1 + 1, 0, none⟩) 2 2, .slice none 0 0] 25)
  obtain ⟨W2, e2⟩ : ∃ W2, W2 = (w1.alloc o1).alloc o2 := ⟨_, rfl⟩
  have z2 : W2.heap.size = w1.heap.size + 1 + 1 := by rw [e2]; simp
  rw [← e2] at B ⊢
  obtain ⟨W3, e3⟩ : ∃ W3, W3 = W2.alloc (.cells #[.string ⟨#[102]⟩, .int .i64 k, .int .i64 o, .string tn] 31) := ⟨_, rfl⟩
  have z3 : W3.heap.size = w1.heap.size + 1 + 1 + 1 := by rw [e3]; simp [z2]
  have h3 : W3.heap[w1.heap.size + 1 + 1]? = some (.cells #[.string ⟨#[102]⟩, .int .i64 k, .int .i64 o, .string tn] 31 (0, 0)) := by rw [e3, ← z2]; exact alloc_heap _ _
  rw [← e3] at B ⊢
  obtain ⟨W4, e4⟩ : ∃ W4, W4 = W3.alloc (.cells #[.string ⟨#[65]⟩, .slice none 0 0, .slice (some ⟨w1.heap.size + 1 + 1, 0, none⟩) 1 1, .string ⟨#[66]⟩, .slice none 0 0, .slice none 0 0] 42) := ⟨_, rfl⟩
  have z4 : W4.heap.size = w1.heap.size + 1 + 1 + 1 + 1 := by rw [e4]; simp [z3]
  have h4 : W4.heap[w1.heap.size + 1 + 1 + 1]? = some (.cells #[.string ⟨#[65]⟩, .slice none 0 0, .slice (some ⟨w1.heap.size + 1 + 1, 0, none⟩) 1 1, .string ⟨#[66]⟩, .slice none 0 0, .slice none 0 0] 42 (0, 0)) := by rw [e4, ← z3]; exact alloc_heap _ _
  have h34 : W4.heap[w1.heap.size + 1 + 1]? = _ := (by rw [e4]; exact Below.heap_alloc _ _ _ (by omega) : W4.heap[w1.heap.size + 1 + 1]? = W3.heap[w1.heap.size + 1 + 1]?).trans h3
  rw [← e4] at B ⊢
  obtain ⟨W5, e5⟩ : ∃ W5, W5 = W4.alloc (.cells #[.slice (some ⟨w1.heap.size + 1 + 1 + 1, 0, none⟩) 2 2, .slice none 0 0] 25) := ⟨_, rfl⟩
  have z5 : W5.heap.size = w1.heap.size + 1 + 1 + 1 + 1 + 1 := by rw [e5]; simp [z4]
  have h45 : W5.heap[w1.heap.size + 1 + 1 + 1]? = _ := (by rw [e5]; exact Below.heap_alloc _ _ _ (by omega) : W5.heap[w1.heap.size + 1 + 1 + 1]? = W4.heap[w1.heap.size + 1 + 1 + 1]?).trans h4
  have h35 : W5.heap[w1.heap.size + 1 + 1]? = _ := (by rw [e5]; exact Below.heap_alloc _ _ _ (by omega) : W5.heap[w1.heap.size + 1 + 1]? = W4.heap[w1.heap.size + 1 + 1]?).trans h34
  rw [← e5] at B ⊢
  refine (two_any k o tn _ _ (two_is (F := w1.heap.size + 1 + 1) (K := w1.heap.size + 1 + 1 + 1) ⟨?_, ?_, ?_, ?_⟩ ⟨?_, ?_, ?_⟩ ⟨?_, ?_, ?_⟩ (by omega) (by omega))).mono ?_
  iterate 4 (rw [Lib.cell_of_heap h35]; rfl)
  iterate 6 (rw [Lib.cell_of_heap h45]; rfl)
  rintro e w' ⟨rfl, b⟩
  exact ⟨rfl, B.trans (b.mono B.size)⟩
theorem empty_no {t : ByteArray} (h : ¬ t = ⟨#[]⟩) : t.toList.isEmpty = false := by
  rw [ByteArray.toList_eq, List.isEmpty_eq_false_iff]
  exact fun h' => h (ByteArray.ext (by simpa using congrArg List.toArray h'))
def lAB : List ByteArray := [⟨#[65]⟩, ⟨#[66]⟩]
theorem none_A : noneB lAB ⟨#[65]⟩ = false := by decide
theorem none_B : noneB lAB ⟨#[66]⟩ = false := by decide
theorem none_O {tn : ByteArray} (h1 : ¬ tn = ⟨#[65]⟩) (h2 : ¬ tn = ⟨#[66]⟩) : noneB lAB tn = true := noneB_true fun h => by
  rcases List.mem_cons.1 h with h | h
  · exact h1 h
  · exact h2 (List.mem_singleton.1 h)
theorem tyN_4 {tn : ByteArray} : typeNC lAB 4 tn = if noneB lAB tn then 2 else 0 := if_pos rfl
theorem tyN_E {q : Int} (h : ¬ q = 4) : typeNC lAB q ⟨#[]⟩ = 0 := (if_neg h).trans (if_pos rfl)
theorem tyN_N {q : Int} {tn : ByteArray} (h : ¬ q = 4) (h' : ¬ tn = ⟨#[]⟩) : typeNC lAB q tn = 1 := (if_neg h).trans (if_neg h')
theorem tyN_A : typeNC lAB 4 ⟨#[65]⟩ = 0 := by rw [tyN_4, none_A]; rfl
theorem tyN_B : typeNC lAB 4 ⟨#[66]⟩ = 0 := by rw [tyN_4, none_B]; rfl
theorem tyN_O {tn : ByteArray} (h1 : ¬ tn = ⟨#[65]⟩) (h2 : ¬ tn = ⟨#[66]⟩) : typeNC lAB 4 tn = 2 := by rw [tyN_4, none_O h1 h2]; rfl
theorem ty_no {k o : Int} {nm tn : ByteArray} (h : k < 1 ∨ 5 < k) : typeC lAB ⟨nm, k, o, tn⟩ = 3 := (if_neg (show ¬ (k = 1 ∨ k = 2 ∨ k = 3 ∨ k = 4) by omega)).trans (if_neg (show ¬ k = 5 by omega))
theorem ty_fl {k : Int} {nm tn : ByteArray} (h : k = 1 ∨ k = 2 ∨ k = 3 ∨ k = 4) : typeC lAB ⟨nm, k, 0, tn⟩ = typeNC lAB k tn := (if_pos h).trans (if_pos rfl)
theorem ty_fo {k o : Int} {nm tn : ByteArray} (h : k = 1 ∨ k = 2 ∨ k = 3 ∨ k = 4) (h' : ¬ o = 0) : typeC lAB ⟨nm, k, o, tn⟩ = 1 := (if_pos h).trans (if_neg h')
theorem ty_5 {o : Int} {nm tn : ByteArray} (h : 1 ≤ o ∧ o ≤ 4) : typeC lAB ⟨nm, 5, o, tn⟩ = typeNC lAB o tn := (if_neg (show ¬ ((5 : Int) = 1 ∨ (5 : Int) = 2 ∨ (5 : Int) = 3 ∨ (5 : Int) = 4) by decide)).trans ((if_pos rfl).trans (if_pos h))
theorem ty_5o {o : Int} {nm tn : ByteArray} (h : ¬ (1 ≤ o ∧ o ≤ 4)) : typeC lAB ⟨nm, 5, o, tn⟩ = 3 := (if_neg (show ¬ ((5 : Int) = 1 ∨ (5 : Int) = 2 ∨ (5 : Int) = 3 ∨ (5 : Int) = 4) by decide)).trans ((if_pos rfl).trans (if_neg h))
def tn4 : List ByteArray := [⟨#[]⟩, ⟨#[65]⟩, ⟨#[66]⟩, ⟨#[97]⟩]
def tn4C : Array Value := #[.string ⟨#[]⟩, .string ⟨#[65]⟩, .string ⟨#[66]⟩, .string ⟨#[97]⟩]
theorem tn4_cell (m : Nat) (hm : m < 4) : tn4C[m]? = some (.string (tn4.getD m ⟨#[]⟩)) := by
  match m, hm with
  | 0, _ | 1, _ | 2, _ | 3, _ => rfl
end Go.Proofs.Ytckjafmnaffggaa
