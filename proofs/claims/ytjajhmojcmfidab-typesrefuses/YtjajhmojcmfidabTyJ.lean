/-
  chancellaw11.TypesRefuses: the walk.
-/
import Derived.Test.YtjajhmojcmfidabTyI
namespace Go.Proofs.Ytjajhmojcmfidab
open Go.RowKit Go.Sort

theorem alloc6 (w : World) (o1 o2 o3 o4 o5 o6 : Obj) : Below w.heap.size w ((((((w.alloc o1).alloc o2).alloc o3).alloc o4).alloc o5).alloc o6) ∧ ((((((w.alloc o1).alloc o2).alloc o3).alloc o4).alloc o5).alloc o6).heap.size = w.heap.size + 6 ∧ ((((((w.alloc o1).alloc o2).alloc o3).alloc o4).alloc o5).alloc o6).heap[w.heap.size]? = some o1 ∧ ((((((w.alloc o1).alloc o2).alloc o3).alloc o4).alloc o5).alloc o6).heap[w.heap.size + 1]? = some o2 ∧ ((((((w.alloc o1).alloc o2).alloc o3).alloc o4).alloc o5).alloc o6).heap[w.heap.size + 2]? = some o3 ∧ ((((((w.alloc o1).alloc o2).alloc o3).alloc o4).alloc o5).alloc o6).heap[w.heap.size + 3]? = some o4 ∧ ((((((w.alloc o1).alloc o2).alloc o3).alloc o4).alloc o5).alloc o6).heap[w.heap.size + 4]? = some o5 ∧ ((((((w.alloc o1).alloc o2).alloc o3).alloc o4).alloc o5).alloc o6).heap[w.heap.size + 5]? = some o6 := by
  obtain ⟨b4, z4, h1, h2, h3, h4⟩ := alloc4 w o1 o2 o3 o4
  obtain ⟨b2, z2, h5, h6⟩ := alloc2 ((((w.alloc o1).alloc o2).alloc o3).alloc o4) o5 o6
  have zz : ((((w.alloc o1).alloc o2).alloc o3).alloc o4).heap.size = w.heap.size + 4 := by simp
  rw [zz] at h5 h6 z2
  exact ⟨b4.trans (b2.mono b4.size), z2, kept_of_below b2 h1, kept_of_below b2 h2, kept_of_below b2 h3, kept_of_below b2 h4, h5, h6⟩
/-- The schema of this law. -/
def refS : SP := ⟨[⟨⟨#[68, 111, 99]⟩, [], []⟩, ⟨⟨#[85, 115, 101, 114]⟩, [], []⟩], [⟨⟨#[114, 101, 97, 100]⟩, [⟨#[85, 115, 101, 114]⟩], [⟨#[68, 111, 99]⟩]⟩]⟩
theorem sm_ref : SmS refS := ⟨by decide, by decide, fun k hk => by
  simp only [refS, List.mem_cons, List.not_mem_nil, or_false] at hk
  rcases hk with rfl | rfl <;> exact ⟨by decide, by decide⟩, fun k hk => by
  simp only [refS, List.mem_cons, List.not_mem_nil, or_false] at hk
  subst hk
  exact ⟨by decide, by decide⟩⟩
theorem few_ref : ∀ a ∈ refS.ac, a.pr.length ≤ 100000 ∧ a.re.length ≤ 100000 := fun k hk => by
  simp only [refS, List.mem_cons, List.not_mem_nil, or_false] at hk
  subst hk
  exact ⟨by decide, by decide⟩
theorem isS_ref {w : World} {b : Nat} (h1 : w.heap[b]? = some (.cells #[.string ⟨#[68, 111, 99]⟩, .slice none 0 0, .slice none 0 0, .string ⟨#[85, 115, 101, 114]⟩, .slice none 0 0, .slice none 0 0] 37 (0, 0))) (h2 : w.heap[b + 1]? = some (.cells #[.string ⟨#[85, 115, 101, 114]⟩] 9 (0, 0))) (h3 : w.heap[b + 2]? = some (.cells #[.string ⟨#[68, 111, 99]⟩] 9 (0, 0))) (h4 : w.heap[b + 3]? = some (.cells #[.string ⟨#[114, 101, 97, 100]⟩, .slice (some ⟨b + 1, 0, none⟩) 1 1, .slice (some ⟨b + 2, 0, none⟩) 1 1] 54 (0, 0))) : IsS w (.agg #[.slice (some ⟨b, 0, none⟩) 2 2, .slice (some ⟨b + 3, 0, none⟩) 1 1]) refS := by
  refine ⟨⟨some ⟨b, 0, none⟩, 2, some ⟨b + 3, 0, none⟩, 1, rfl, ⟨⟨[⟨⟨#[68, 111, 99]⟩, none, 0, 0, none, 0, 0⟩, ⟨⟨#[85, 115, 101, 114]⟩, none, 0, 0, none, 0, 0⟩], rfl, rowG_block _ h1 rfl (fun c hc => ?_), fun j hj hj' => ?_⟩⟩, ⟨⟨[⟨⟨#[114, 101, 97, 100]⟩, some ⟨b + 1, 0, none⟩, 1, 1, some ⟨b + 2, 0, none⟩, 1, 1⟩], rfl, rowG_block _ h4 rfl (fun c hc => ?_), fun j hj hj' => ?_⟩⟩⟩⟩
  · obtain ⟨u, _, rfl⟩ := List.mem_map.1 hc
    rfl
  · match j, hj with
    | 0, _ => exact isK_bare _ _
    | 1, _ => exact isK_bare _ _
  · obtain ⟨u, _, rfl⟩ := List.mem_map.1 hc
    rfl
  · match j, hj with
    | 0, _ => exact ⟨rfl, rfl, rowG_block (l := [strC ⟨#[85, 115, 101, 114]⟩]) _ h2 rfl (fun c hc => by
        rw [List.mem_singleton.1 hc]
        rfl), rfl, rowG_block (l := [strC ⟨#[68, 111, 99]⟩]) _ h3 rfl (fun c hc => by
        rw [List.mem_singleton.1 hc]
        rfl)⟩
theorem isCs_one {w : World} {b : Nat} {u : Bool} {x : R7} {e : Ex} (h : w.heap[b]? = some (.cells #[.bool u, .int .i64 x.k, .bool x.b, .int .i64 x.n, .string x.s, .string x.t, .string x.i, .slice x.lo x.ll x.lc] 61 (0, 0))) (hx : IsE w PT x e) : IsCs w (some ⟨b, 0, none⟩) [(u, e)] := fun j hj => by
  have hj0 : j = 0 := by simpa using hj
  subst hj0
  have hl := (Array.getElem?_eq_some_iff.1 h).1
  exact ⟨x, b, 0, rfl, hl, by rw [Lib.cell_of_heap h]; rfl, ⟨by rw [Lib.cell_of_heap h]; rfl, by rw [Lib.cell_of_heap h]; rfl, by rw [Lib.cell_of_heap h]; rfl, by rw [Lib.cell_of_heap h]; rfl, by rw [Lib.cell_of_heap h]; rfl, by rw [Lib.cell_of_heap h]; rfl, by rw [Lib.cell_of_heap h]; rfl⟩, hx⟩
theorem mild_one {u : Bool} {e : Ex} (h : depE e ≤ 1000) (h2 : slE e = true) : mildC [(u, e)] := fun c hc => by
  rw [List.mem_singleton.1 hc]
  exact ⟨h, h2⟩
set_option maxHeartbeats 8000000 in
set_option maxRecDepth 1000000 in
theorem refuses_walk (a n : Int) (w : World) : Calls Try.prog 4 #[.int .i64 a, .int .i64 n] w fun e w' => e = .returned (.bool true) ∧ Below w.heap.size w w' := by
  have C0 := known11_any w
  have CW := fun w' => within11_any a 8 (by decide) (by decide) w'
  obtain ⟨m, hm⟩ : ∃ m : Int, m = a % 8 := ⟨_, rfl⟩
  have hm8 : m = 0 ∨ m = 1 ∨ m = 2 ∨ m = 3 ∨ m = 4 ∨ m = 5 ∨ m = 6 ∨ m = 7 := by omega
  rw [← hm] at CW
  clear hm
  obtain ⟨z, hz⟩ : ∃ z, z = (n.tmod 2 == 0) := ⟨_, rfl⟩
  go_enter Try.func4, Try.ntmps4
  go_wp2_with fail
  refine C0.mono ?_
  clear C0
  rintro e9 w2 ⟨rfl, b02⟩
  obtain ⟨bX, zX, k1, k2, k3, k4, k5, k6⟩ := alloc6 w2 (.cells #[.string ⟨#[68, 111, 99]⟩, .slice none 0 0, .slice none 0 0, .string ⟨#[85, 115, 101, 114]⟩, .slice none 0 0, .slice none 0 0] 37) (.cells #[.string ⟨#[85, 115, 101, 114]⟩] 9) (.cells #[.string ⟨#[68, 111, 99]⟩] 9) (.cells #[.string ⟨#[114, 101, 97, 100]⟩, .slice (some ⟨w2.heap.size + 1, 0, none⟩) 1 1, .slice (some ⟨w2.heap.size + 2, 0, none⟩) 1 1] 54) (.cells #[.slice (some ⟨w2.heap.size, 0, none⟩) 2 2, .slice (some ⟨w2.heap.size + 3, 0, none⟩) 1 1] 28) (.cells #[.bool z, .int .i64 0, .string ⟨#[]⟩, .string ⟨#[]⟩, .int .i64 0, .string ⟨#[]⟩, .string ⟨#[]⟩, .int .i64 0, .string ⟨#[]⟩, .string ⟨#[]⟩, .slice none 0 0] 59)
  have b06 := b02.trans (bX.mono b02.size)
  have zw := b02.size
  have hPlt : w2.heap.size + 5 < ((((((w2.alloc (.cells #[.string ⟨#[68, 111, 99]⟩, .slice none 0 0, .slice none 0 0, .string ⟨#[85, 115, 101, 114]⟩, .slice none 0 0, .slice none 0 0] 37)).alloc (.cells #[.string ⟨#[85, 115, 101, 114]⟩] 9)).alloc (.cells #[.string ⟨#[68, 111, 99]⟩] 9)).alloc (.cells #[.string ⟨#[114, 101, 97, 100]⟩, .slice (some ⟨w2.heap.size + 1, 0, none⟩) 1 1, .slice (some ⟨w2.heap.size + 2, 0, none⟩) 1 1] 54)).alloc (.cells #[.slice (some ⟨w2.heap.size, 0, none⟩) 2 2, .slice (some ⟨w2.heap.size + 3, 0, none⟩) 1 1] 28)).alloc (.cells #[.bool z, .int .i64 0, .string ⟨#[]⟩, .string ⟨#[]⟩, .int .i64 0, .string ⟨#[]⟩, .string ⟨#[]⟩, .int .i64 0, .string ⟨#[]⟩, .string ⟨#[]⟩, .slice none 0 0] 59)).heap.size := (Array.getElem?_eq_some_iff.1 k6).1
  clear zX
  have hPge : w.heap.size ≤ (⟨w2.heap.size + 5, 0, none⟩ : Addr).block := by show w.heap.size ≤ w2.heap.size + 5; omega
  go_wp2_with fail
  rw [← hz]
  clear hz
  generalize (((((w2.alloc _).alloc _).alloc _).alloc _).alloc _).alloc _ = w6 at *
  have hS6 := isS_ref k1 k2 k3 k4
  refine (CW _).mono ?_
  clear CW
  rintro e9 w9 ⟨rfl, hw9⟩
  have hw9 := hw9.symm
  subst hw9
  rcases hm8 with rfl | rfl | rfl | rfl | rfl | rfl | rfl | rfl
  · have kS := k5
    have kP := k6
    have hS := hS6
    have b07 := b06
    have hP : w6.heap[w2.heap.size + 5]? = some (.cells #[.bool z, .int .i64 0, .string ⟨#[]⟩, .string ⟨#[]⟩, .int .i64 0, .string ⟨#[]⟩, .string ⟨#[]⟩, .int .i64 0, .string ⟨#[]⟩, .string ⟨#[]⟩, .slice none 0 0] 59 (0, 0)) := kP
    have bP := b07
    have keepB : ∀ b, b ≠ w2.heap.size + 5 → w6.heap[b]? = w6.heap[b]? := fun b hb => rfl
    have hS2 : IsS w6 (.agg #[.slice (some ⟨w2.heap.size, 0, none⟩) 2 2, .slice (some ⟨w2.heap.size + 3, 0, none⟩) 1 1]) refS := isS_ref ((keepB _ (by omega)).trans k1) ((keepB _ (by omega)).trans k2) ((keepB _ (by omega)).trans k3) ((keepB _ (by omega)).trans k4)
    have kS2 := (keepB (w2.heap.size + 4) (by omega)).trans kS
    have hCs : IsCs w6 none [] := fun j hj => absurd hj (Nat.not_lt_zero _)
    have C := yCheck_any refS _ (z) (0) (⟨#[]⟩) (⟨#[]⟩) (0) (⟨#[]⟩) (⟨#[]⟩) (0) (⟨#[]⟩) (⟨#[]⟩) (none) 0 0 [] _ rfl (Nat.le_of_ble_eq_true rfl) (fun _ h => absurd h List.not_mem_nil) sm_ref (by decide) few_ref (Nat.le_of_ble_eq_true (by kernel_rfl)) hS2 hCs
    rw [show checkP refS _ _ [] = 0 by kernel_rfl] at C
    go_upto_region 21 with fail
    obtain ⟨w8, hw8⟩ : ∃ q, q = w6 := ⟨_, rfl⟩
    rw [← hw8] at C hP kS2 bP ⊢
    clear hw8 hS2 hCs keepB
    have q0 : w8.cell? ⟨w2.heap.size + 5, 0, none⟩ = some (.bool z) := by rw [Lib.cell_of_heap hP]; rfl
    have q1 : w8.cell? ⟨w2.heap.size + 5, 1, none⟩ = some (.int .i64 0) := by rw [Lib.cell_of_heap hP]; rfl
    have q2 : w8.cell? ⟨w2.heap.size + 5, 2, none⟩ = some (.string ⟨#[]⟩) := by rw [Lib.cell_of_heap hP]; rfl
    have q3 : w8.cell? ⟨w2.heap.size + 5, 3, none⟩ = some (.string ⟨#[]⟩) := by rw [Lib.cell_of_heap hP]; rfl
    have q4 : w8.cell? ⟨w2.heap.size + 5, 4, none⟩ = some (.int .i64 0) := by rw [Lib.cell_of_heap hP]; rfl
    have q5 : w8.cell? ⟨w2.heap.size + 5, 5, none⟩ = some (.string ⟨#[]⟩) := by rw [Lib.cell_of_heap hP]; rfl
    have q6 : w8.cell? ⟨w2.heap.size + 5, 6, none⟩ = some (.string ⟨#[]⟩) := by rw [Lib.cell_of_heap hP]; rfl
    have q7 : w8.cell? ⟨w2.heap.size + 5, 7, none⟩ = some (.int .i64 0) := by rw [Lib.cell_of_heap hP]; rfl
    have q8 : w8.cell? ⟨w2.heap.size + 5, 8, none⟩ = some (.string ⟨#[]⟩) := by rw [Lib.cell_of_heap hP]; rfl
    have q9 : w8.cell? ⟨w2.heap.size + 5, 9, none⟩ = some (.string ⟨#[]⟩) := by rw [Lib.cell_of_heap hP]; rfl
    have q10 : w8.cell? ⟨w2.heap.size + 5, 10, none⟩ = some (.slice none 0 0) := by rw [Lib.cell_of_heap hP]; rfl
    have r0 : w8.cell? ⟨w2.heap.size + 4, 0, none⟩ = some (.slice (some ⟨w2.heap.size, 0, none⟩) 2 2) := by rw [Lib.cell_of_heap kS2]; rfl
    have r1 : w8.cell? ⟨w2.heap.size + 4, 1, none⟩ = some (.slice (some ⟨w2.heap.size + 3, 0, none⟩) 1 1) := by rw [Lib.cell_of_heap kS2]; rfl
    go_wp2_with fail
    refine C.mono ?_
    clear C q0 q1 q2 q3 q4 q5 q6 q7 q8 q9 q10 r0 r1
    rintro e9 w9 ⟨rfl, b9⟩
    have b0Z := bP.trans (b9.mono bP.size)
    go_wp2
    go_ret
    exact ⟨rfl, b0Z⟩
  · have b7 := blw1 w6 (.cells #[.bool false, .int .i64 2, .bool false, .int .i64 0, .string ⟨#[]⟩, .string ⟨#[]⟩, .string ⟨#[]⟩, .slice none 0 0] 61)
    have h7 := alloc_heap w6 (.cells #[.bool false, .int .i64 2, .bool false, .int .i64 0, .string ⟨#[]⟩, .string ⟨#[]⟩, .string ⟨#[]⟩, .slice none 0 0] 61)
    have kS := kept_of_below b7 k5
    have kP := kept_of_below b7 k6
    have hS := hS6.below b7
    have b07 := b06.trans (b7.mono b06.size)
    have s0 := heap_setCell_same (w6.alloc (.cells #[.bool false, .int .i64 2, .bool false, .int .i64 0, .string ⟨#[]⟩, .string ⟨#[]⟩, .string ⟨#[]⟩, .slice none 0 0] 61)) (w2.heap.size + 5) 10 _ _ (.slice (some ⟨w6.heap.size, 0, none⟩) 1 1) kP
    have hP : ((w6.alloc (.cells #[.bool false, .int .i64 2, .bool false, .int .i64 0, .string ⟨#[]⟩, .string ⟨#[]⟩, .string ⟨#[]⟩, .slice none 0 0] 61)).setCell ⟨w2.heap.size + 5, 10, none⟩ (.slice (some ⟨w6.heap.size, 0, none⟩) 1 1)).heap[w2.heap.size + 5]? = some (.cells #[.bool z, .int .i64 0, .string ⟨#[]⟩, .string ⟨#[]⟩, .int .i64 0, .string ⟨#[]⟩, .string ⟨#[]⟩, .int .i64 0, .string ⟨#[]⟩, .string ⟨#[]⟩, .slice (some ⟨w6.heap.size, 0, none⟩) 1 1] 59 (0, 0)) := s0
    have bP := (b07.setCell (p := ⟨w2.heap.size + 5, 10, none⟩) hPge (.slice (some ⟨w6.heap.size, 0, none⟩) 1 1))
    have keepB : ∀ b, b ≠ w2.heap.size + 5 → ((w6.alloc (.cells #[.bool false, .int .i64 2, .bool false, .int .i64 0, .string ⟨#[]⟩, .string ⟨#[]⟩, .string ⟨#[]⟩, .slice none 0 0] 61)).setCell ⟨w2.heap.size + 5, 10, none⟩ (.slice (some ⟨w6.heap.size, 0, none⟩) 1 1)).heap[b]? = (w6.alloc (.cells #[.bool false, .int .i64 2, .bool false, .int .i64 0, .string ⟨#[]⟩, .string ⟨#[]⟩, .string ⟨#[]⟩, .slice none 0 0] 61)).heap[b]? := fun b hb => (Below.heap_setCell _ ⟨w2.heap.size + 5, 10, none⟩ _ b hb)
    have hS2 : IsS ((w6.alloc (.cells #[.bool false, .int .i64 2, .bool false, .int .i64 0, .string ⟨#[]⟩, .string ⟨#[]⟩, .string ⟨#[]⟩, .slice none 0 0] 61)).setCell ⟨w2.heap.size + 5, 10, none⟩ (.slice (some ⟨w6.heap.size, 0, none⟩) 1 1)) (.agg #[.slice (some ⟨w2.heap.size, 0, none⟩) 2 2, .slice (some ⟨w2.heap.size + 3, 0, none⟩) 1 1]) refS := isS_ref ((keepB _ (by omega)).trans (kept_of_below b7 k1)) ((keepB _ (by omega)).trans (kept_of_below b7 k2)) ((keepB _ (by omega)).trans (kept_of_below b7 k3)) ((keepB _ (by omega)).trans (kept_of_below b7 k4))
    have kS2 := (keepB (w2.heap.size + 4) (by omega)).trans kS
    have hPne : w6.heap.size ≠ w2.heap.size + 5 := by omega
    have hC := (keepB w6.heap.size hPne).trans h7
    have hCs : IsCs ((w6.alloc (.cells #[.bool false, .int .i64 2, .bool false, .int .i64 0, .string ⟨#[]⟩, .string ⟨#[]⟩, .string ⟨#[]⟩, .slice none 0 0] 61)).setCell ⟨w2.heap.size + 5, 10, none⟩ (.slice (some ⟨w6.heap.size, 0, none⟩) 1 1)) (some ⟨w6.heap.size, 0, none⟩) [(false, eLong 0)] := isCs_one hC (isE_leaf _ 2 false 0 [] [] [] 0 none)
    have C := yCheck_any refS _ (z) (0) (⟨#[]⟩) (⟨#[]⟩) (0) (⟨#[]⟩) (⟨#[]⟩) (0) (⟨#[]⟩) (⟨#[]⟩) (some ⟨w6.heap.size, 0, none⟩) 1 1 [(false, eLong 0)] _ rfl (Nat.le_of_ble_eq_true rfl) (mild_one (Nat.le_of_ble_eq_true rfl) rfl) sm_ref (by decide) few_ref (Nat.le_of_ble_eq_true (by kernel_rfl)) hS2 hCs
    rw [show checkP refS _ _ [(false, eLong 0)] = 16 by kernel_rfl] at C
    have pz10 : (w6.alloc (.cells #[.bool false, .int .i64 2, .bool false, .int .i64 0, .string ⟨#[]⟩, .string ⟨#[]⟩, .string ⟨#[]⟩, .slice none 0 0] 61)).cell? ⟨w2.heap.size + 5, 10, none⟩ = some (.slice none 0 0) := by rw [Lib.cell_of_heap kP]; rfl
    have pf : ∀ o, (w6.alloc (.cells #[.bool false, .int .i64 2, .bool false, .int .i64 0, .string ⟨#[]⟩, .string ⟨#[]⟩, .string ⟨#[]⟩, .slice none 0 0] 61)).frozen? ⟨w2.heap.size + 5, o, none⟩ = false := fun o => Lib.frozen_of_heap kP o
    go_upto_region 21 with fail
    clear pf pz10
    have comm := World.setCell_alloc_past (w := w6) (.cells #[.bool false, .int .i64 2, .bool false, .int .i64 0, .string ⟨#[]⟩, .string ⟨#[]⟩, .string ⟨#[]⟩, .slice none 0 0] 61) (w2.heap.size + 5) 10 (.slice (some ⟨w6.heap.size, 0, none⟩) 1 1) hPlt
    rw [comm] at C hP kS2 bP hS2 hCs keepB
    obtain ⟨w8, hw8⟩ : ∃ q, q = ((w6.setCell ⟨w2.heap.size + 5, 10, none⟩ (.slice (some ⟨w6.heap.size, 0, none⟩) 1 1)).alloc (.cells #[.bool false, .int .i64 2, .bool false, .int .i64 0, .string ⟨#[]⟩, .string ⟨#[]⟩, .string ⟨#[]⟩, .slice none 0 0] 61)) := ⟨_, rfl⟩
    rw [← hw8] at C hP kS2 bP ⊢
    clear hw8 hS2 hCs keepB
    have q0 : w8.cell? ⟨w2.heap.size + 5, 0, none⟩ = some (.bool z) := by rw [Lib.cell_of_heap hP]; rfl
    have q1 : w8.cell? ⟨w2.heap.size + 5, 1, none⟩ = some (.int .i64 0) := by rw [Lib.cell_of_heap hP]; rfl
    have q2 : w8.cell? ⟨w2.heap.size + 5, 2, none⟩ = some (.string ⟨#[]⟩) := by rw [Lib.cell_of_heap hP]; rfl
    have q3 : w8.cell? ⟨w2.heap.size + 5, 3, none⟩ = some (.string ⟨#[]⟩) := by rw [Lib.cell_of_heap hP]; rfl
    have q4 : w8.cell? ⟨w2.heap.size + 5, 4, none⟩ = some (.int .i64 0) := by rw [Lib.cell_of_heap hP]; rfl
    have q5 : w8.cell? ⟨w2.heap.size + 5, 5, none⟩ = some (.string ⟨#[]⟩) := by rw [Lib.cell_of_heap hP]; rfl
    have q6 : w8.cell? ⟨w2.heap.size + 5, 6, none⟩ = some (.string ⟨#[]⟩) := by rw [Lib.cell_of_heap hP]; rfl
    have q7 : w8.cell? ⟨w2.heap.size + 5, 7, none⟩ = some (.int .i64 0) := by rw [Lib.cell_of_heap hP]; rfl
    have q8 : w8.cell? ⟨w2.heap.size + 5, 8, none⟩ = some (.string ⟨#[]⟩) := by rw [Lib.cell_of_heap hP]; rfl
    have q9 : w8.cell? ⟨w2.heap.size + 5, 9, none⟩ = some (.string ⟨#[]⟩) := by rw [Lib.cell_of_heap hP]; rfl
    have q10 : w8.cell? ⟨w2.heap.size + 5, 10, none⟩ = some (.slice (some ⟨w6.heap.size, 0, none⟩) 1 1) := by rw [Lib.cell_of_heap hP]; rfl
    have r0 : w8.cell? ⟨w2.heap.size + 4, 0, none⟩ = some (.slice (some ⟨w2.heap.size, 0, none⟩) 2 2) := by rw [Lib.cell_of_heap kS2]; rfl
    have r1 : w8.cell? ⟨w2.heap.size + 4, 1, none⟩ = some (.slice (some ⟨w2.heap.size + 3, 0, none⟩) 1 1) := by rw [Lib.cell_of_heap kS2]; rfl
    go_wp2_with fail
    refine C.mono ?_
    clear C q0 q1 q2 q3 q4 q5 q6 q7 q8 q9 q10 r0 r1
    rintro e9 w9 ⟨rfl, b9⟩
    have b0Z := bP.trans (b9.mono bP.size)
    go_wp2
    go_ret
    exact ⟨rfl, b0Z⟩
  · have kS := k5
    have kP := k6
    have hS := hS6
    have b07 := b06
    have s0 := heap_setCell_same w6 (w2.heap.size + 5) 1 _ _ (.int .i64 1) kP
    have s1 := heap_setCell_same (w6.setCell ⟨w2.heap.size + 5, 1, none⟩ (.int .i64 1)) (w2.heap.size + 5) 2 _ _ (.string ⟨#[68, 111, 99]⟩) s0
    have s2 := heap_setCell_same ((w6.setCell ⟨w2.heap.size + 5, 1, none⟩ (.int .i64 1)).setCell ⟨w2.heap.size + 5, 2, none⟩ (.string ⟨#[68, 111, 99]⟩)) (w2.heap.size + 5) 3 _ _ (.string ⟨#[100]⟩) s1
    have hP : (((w6.setCell ⟨w2.heap.size + 5, 1, none⟩ (.int .i64 1)).setCell ⟨w2.heap.size + 5, 2, none⟩ (.string ⟨#[68, 111, 99]⟩)).setCell ⟨w2.heap.size + 5, 3, none⟩ (.string ⟨#[100]⟩)).heap[w2.heap.size + 5]? = some (.cells #[.bool z, .int .i64 1, .string ⟨#[68, 111, 99]⟩, .string ⟨#[100]⟩, .int .i64 0, .string ⟨#[]⟩, .string ⟨#[]⟩, .int .i64 0, .string ⟨#[]⟩, .string ⟨#[]⟩, .slice none 0 0] 59 (0, 0)) := s2
    have bP := (((b07.setCell (p := ⟨w2.heap.size + 5, 1, none⟩) hPge (.int .i64 1)).setCell (p := ⟨w2.heap.size + 5, 2, none⟩) hPge (.string ⟨#[68, 111, 99]⟩)).setCell (p := ⟨w2.heap.size + 5, 3, none⟩) hPge (.string ⟨#[100]⟩))
    have keepB : ∀ b, b ≠ w2.heap.size + 5 → (((w6.setCell ⟨w2.heap.size + 5, 1, none⟩ (.int .i64 1)).setCell ⟨w2.heap.size + 5, 2, none⟩ (.string ⟨#[68, 111, 99]⟩)).setCell ⟨w2.heap.size + 5, 3, none⟩ (.string ⟨#[100]⟩)).heap[b]? = w6.heap[b]? := fun b hb => (Below.heap_setCell _ ⟨w2.heap.size + 5, 3, none⟩ _ b hb).trans ((Below.heap_setCell _ ⟨w2.heap.size + 5, 2, none⟩ _ b hb).trans ((Below.heap_setCell _ ⟨w2.heap.size + 5, 1, none⟩ _ b hb)))
    have hS2 : IsS (((w6.setCell ⟨w2.heap.size + 5, 1, none⟩ (.int .i64 1)).setCell ⟨w2.heap.size + 5, 2, none⟩ (.string ⟨#[68, 111, 99]⟩)).setCell ⟨w2.heap.size + 5, 3, none⟩ (.string ⟨#[100]⟩)) (.agg #[.slice (some ⟨w2.heap.size, 0, none⟩) 2 2, .slice (some ⟨w2.heap.size + 3, 0, none⟩) 1 1]) refS := isS_ref ((keepB _ (by omega)).trans k1) ((keepB _ (by omega)).trans k2) ((keepB _ (by omega)).trans k3) ((keepB _ (by omega)).trans k4)
    have kS2 := (keepB (w2.heap.size + 4) (by omega)).trans kS
    have hCs : IsCs (((w6.setCell ⟨w2.heap.size + 5, 1, none⟩ (.int .i64 1)).setCell ⟨w2.heap.size + 5, 2, none⟩ (.string ⟨#[68, 111, 99]⟩)).setCell ⟨w2.heap.size + 5, 3, none⟩ (.string ⟨#[100]⟩)) none [] := fun j hj => absurd hj (Nat.not_lt_zero _)
    have C := yCheck_any refS _ (z) (1) (⟨#[68, 111, 99]⟩) (⟨#[100]⟩) (0) (⟨#[]⟩) (⟨#[]⟩) (0) (⟨#[]⟩) (⟨#[]⟩) (none) 0 0 [] _ rfl (Nat.le_of_ble_eq_true rfl) (fun _ h => absurd h List.not_mem_nil) sm_ref (by decide) few_ref (Nat.le_of_ble_eq_true (by kernel_rfl)) hS2 hCs
    rw [show checkP refS _ _ [] = 2 by kernel_rfl] at C
    have pz1 : w6.cell? ⟨w2.heap.size + 5, 1, none⟩ = some (.int .i64 0) := by rw [Lib.cell_of_heap kP]; rfl
    have pz2 : w6.cell? ⟨w2.heap.size + 5, 2, none⟩ = some (.string ⟨#[]⟩) := by rw [Lib.cell_of_heap kP]; rfl
    have pz3 : w6.cell? ⟨w2.heap.size + 5, 3, none⟩ = some (.string ⟨#[]⟩) := by rw [Lib.cell_of_heap kP]; rfl
    have pf : ∀ o, w6.frozen? ⟨w2.heap.size + 5, o, none⟩ = false := fun o => Lib.frozen_of_heap kP o
    go_upto_region 21 with fail
    clear pf pz1 pz2 pz3
    obtain ⟨w8, hw8⟩ : ∃ q, q = (((w6.setCell ⟨w2.heap.size + 5, 1, none⟩ (.int .i64 1)).setCell ⟨w2.heap.size + 5, 2, none⟩ (.string ⟨#[68, 111, 99]⟩)).setCell ⟨w2.heap.size + 5, 3, none⟩ (.string ⟨#[100]⟩)) := ⟨_, rfl⟩
    rw [← hw8] at C hP kS2 bP ⊢
    clear hw8 hS2 hCs keepB
    have q0 : w8.cell? ⟨w2.heap.size + 5, 0, none⟩ = some (.bool z) := by rw [Lib.cell_of_heap hP]; rfl
    have q1 : w8.cell? ⟨w2.heap.size + 5, 1, none⟩ = some (.int .i64 1) := by rw [Lib.cell_of_heap hP]; rfl
    have q2 : w8.cell? ⟨w2.heap.size + 5, 2, none⟩ = some (.string ⟨#[68, 111, 99]⟩) := by rw [Lib.cell_of_heap hP]; rfl
    have q3 : w8.cell? ⟨w2.heap.size + 5, 3, none⟩ = some (.string ⟨#[100]⟩) := by rw [Lib.cell_of_heap hP]; rfl
    have q4 : w8.cell? ⟨w2.heap.size + 5, 4, none⟩ = some (.int .i64 0) := by rw [Lib.cell_of_heap hP]; rfl
    have q5 : w8.cell? ⟨w2.heap.size + 5, 5, none⟩ = some (.string ⟨#[]⟩) := by rw [Lib.cell_of_heap hP]; rfl
    have q6 : w8.cell? ⟨w2.heap.size + 5, 6, none⟩ = some (.string ⟨#[]⟩) := by rw [Lib.cell_of_heap hP]; rfl
    have q7 : w8.cell? ⟨w2.heap.size + 5, 7, none⟩ = some (.int .i64 0) := by rw [Lib.cell_of_heap hP]; rfl
    have q8 : w8.cell? ⟨w2.heap.size + 5, 8, none⟩ = some (.string ⟨#[]⟩) := by rw [Lib.cell_of_heap hP]; rfl
    have q9 : w8.cell? ⟨w2.heap.size + 5, 9, none⟩ = some (.string ⟨#[]⟩) := by rw [Lib.cell_of_heap hP]; rfl
    have q10 : w8.cell? ⟨w2.heap.size + 5, 10, none⟩ = some (.slice none 0 0) := by rw [Lib.cell_of_heap hP]; rfl
    have r0 : w8.cell? ⟨w2.heap.size + 4, 0, none⟩ = some (.slice (some ⟨w2.heap.size, 0, none⟩) 2 2) := by rw [Lib.cell_of_heap kS2]; rfl
    have r1 : w8.cell? ⟨w2.heap.size + 4, 1, none⟩ = some (.slice (some ⟨w2.heap.size + 3, 0, none⟩) 1 1) := by rw [Lib.cell_of_heap kS2]; rfl
    go_wp2_with fail
    refine C.mono ?_
    clear C q0 q1 q2 q3 q4 q5 q6 q7 q8 q9 q10 r0 r1
    rintro e9 w9 ⟨rfl, b9⟩
    have b0Z := bP.trans (b9.mono bP.size)
    go_wp2
    go_ret
    exact ⟨rfl, b0Z⟩
  · have kS := k5
    have kP := k6
    have hS := hS6
    have b07 := b06
    have s0 := heap_setCell_same w6 (w2.heap.size + 5) 1 _ _ (.int .i64 2) kP
    have s1 := heap_setCell_same (w6.setCell ⟨w2.heap.size + 5, 1, none⟩ (.int .i64 2)) (w2.heap.size + 5) 2 _ _ (.string ⟨#[78, 111, 112, 101]⟩) s0
    have s2 := heap_setCell_same ((w6.setCell ⟨w2.heap.size + 5, 1, none⟩ (.int .i64 2)).setCell ⟨w2.heap.size + 5, 2, none⟩ (.string ⟨#[78, 111, 112, 101]⟩)) (w2.heap.size + 5) 3 _ _ (.string ⟨#[100]⟩) s1
    have hP : (((w6.setCell ⟨w2.heap.size + 5, 1, none⟩ (.int .i64 2)).setCell ⟨w2.heap.size + 5, 2, none⟩ (.string ⟨#[78, 111, 112, 101]⟩)).setCell ⟨w2.heap.size + 5, 3, none⟩ (.string ⟨#[100]⟩)).heap[w2.heap.size + 5]? = some (.cells #[.bool z, .int .i64 2, .string ⟨#[78, 111, 112, 101]⟩, .string ⟨#[100]⟩, .int .i64 0, .string ⟨#[]⟩, .string ⟨#[]⟩, .int .i64 0, .string ⟨#[]⟩, .string ⟨#[]⟩, .slice none 0 0] 59 (0, 0)) := s2
    have bP := (((b07.setCell (p := ⟨w2.heap.size + 5, 1, none⟩) hPge (.int .i64 2)).setCell (p := ⟨w2.heap.size + 5, 2, none⟩) hPge (.string ⟨#[78, 111, 112, 101]⟩)).setCell (p := ⟨w2.heap.size + 5, 3, none⟩) hPge (.string ⟨#[100]⟩))
    have keepB : ∀ b, b ≠ w2.heap.size + 5 → (((w6.setCell ⟨w2.heap.size + 5, 1, none⟩ (.int .i64 2)).setCell ⟨w2.heap.size + 5, 2, none⟩ (.string ⟨#[78, 111, 112, 101]⟩)).setCell ⟨w2.heap.size + 5, 3, none⟩ (.string ⟨#[100]⟩)).heap[b]? = w6.heap[b]? := fun b hb => (Below.heap_setCell _ ⟨w2.heap.size + 5, 3, none⟩ _ b hb).trans ((Below.heap_setCell _ ⟨w2.heap.size + 5, 2, none⟩ _ b hb).trans ((Below.heap_setCell _ ⟨w2.heap.size + 5, 1, none⟩ _ b hb)))
    have hS2 : IsS (((w6.setCell ⟨w2.heap.size + 5, 1, none⟩ (.int .i64 2)).setCell ⟨w2.heap.size + 5, 2, none⟩ (.string ⟨#[78, 111, 112, 101]⟩)).setCell ⟨w2.heap.size + 5, 3, none⟩ (.string ⟨#[100]⟩)) (.agg #[.slice (some ⟨w2.heap.size, 0, none⟩) 2 2, .slice (some ⟨w2.heap.size + 3, 0, none⟩) 1 1]) refS := isS_ref ((keepB _ (by omega)).trans k1) ((keepB _ (by omega)).trans k2) ((keepB _ (by omega)).trans k3) ((keepB _ (by omega)).trans k4)
    have kS2 := (keepB (w2.heap.size + 4) (by omega)).trans kS
    have hCs : IsCs (((w6.setCell ⟨w2.heap.size + 5, 1, none⟩ (.int .i64 2)).setCell ⟨w2.heap.size + 5, 2, none⟩ (.string ⟨#[78, 111, 112, 101]⟩)).setCell ⟨w2.heap.size + 5, 3, none⟩ (.string ⟨#[100]⟩)) none [] := fun j hj => absurd hj (Nat.not_lt_zero _)
    have C := yCheck_any refS _ (z) (2) (⟨#[78, 111, 112, 101]⟩) (⟨#[100]⟩) (0) (⟨#[]⟩) (⟨#[]⟩) (0) (⟨#[]⟩) (⟨#[]⟩) (none) 0 0 [] _ rfl (Nat.le_of_ble_eq_true rfl) (fun _ h => absurd h List.not_mem_nil) sm_ref (by decide) few_ref (Nat.le_of_ble_eq_true (by kernel_rfl)) hS2 hCs
    rw [show checkP refS _ _ [] = 15 by kernel_rfl] at C
    have pz1 : w6.cell? ⟨w2.heap.size + 5, 1, none⟩ = some (.int .i64 0) := by rw [Lib.cell_of_heap kP]; rfl
    have pz2 : w6.cell? ⟨w2.heap.size + 5, 2, none⟩ = some (.string ⟨#[]⟩) := by rw [Lib.cell_of_heap kP]; rfl
    have pz3 : w6.cell? ⟨w2.heap.size + 5, 3, none⟩ = some (.string ⟨#[]⟩) := by rw [Lib.cell_of_heap kP]; rfl
    have pf : ∀ o, w6.frozen? ⟨w2.heap.size + 5, o, none⟩ = false := fun o => Lib.frozen_of_heap kP o
    go_upto_region 21 with fail
    clear pf pz1 pz2 pz3
    obtain ⟨w8, hw8⟩ : ∃ q, q = (((w6.setCell ⟨w2.heap.size + 5, 1, none⟩ (.int .i64 2)).setCell ⟨w2.heap.size + 5, 2, none⟩ (.string ⟨#[78, 111, 112, 101]⟩)).setCell ⟨w2.heap.size + 5, 3, none⟩ (.string ⟨#[100]⟩)) := ⟨_, rfl⟩
    rw [← hw8] at C hP kS2 bP ⊢
    clear hw8 hS2 hCs keepB
    have q0 : w8.cell? ⟨w2.heap.size + 5, 0, none⟩ = some (.bool z) := by rw [Lib.cell_of_heap hP]; rfl
    have q1 : w8.cell? ⟨w2.heap.size + 5, 1, none⟩ = some (.int .i64 2) := by rw [Lib.cell_of_heap hP]; rfl
    have q2 : w8.cell? ⟨w2.heap.size + 5, 2, none⟩ = some (.string ⟨#[78, 111, 112, 101]⟩) := by rw [Lib.cell_of_heap hP]; rfl
    have q3 : w8.cell? ⟨w2.heap.size + 5, 3, none⟩ = some (.string ⟨#[100]⟩) := by rw [Lib.cell_of_heap hP]; rfl
    have q4 : w8.cell? ⟨w2.heap.size + 5, 4, none⟩ = some (.int .i64 0) := by rw [Lib.cell_of_heap hP]; rfl
    have q5 : w8.cell? ⟨w2.heap.size + 5, 5, none⟩ = some (.string ⟨#[]⟩) := by rw [Lib.cell_of_heap hP]; rfl
    have q6 : w8.cell? ⟨w2.heap.size + 5, 6, none⟩ = some (.string ⟨#[]⟩) := by rw [Lib.cell_of_heap hP]; rfl
    have q7 : w8.cell? ⟨w2.heap.size + 5, 7, none⟩ = some (.int .i64 0) := by rw [Lib.cell_of_heap hP]; rfl
    have q8 : w8.cell? ⟨w2.heap.size + 5, 8, none⟩ = some (.string ⟨#[]⟩) := by rw [Lib.cell_of_heap hP]; rfl
    have q9 : w8.cell? ⟨w2.heap.size + 5, 9, none⟩ = some (.string ⟨#[]⟩) := by rw [Lib.cell_of_heap hP]; rfl
    have q10 : w8.cell? ⟨w2.heap.size + 5, 10, none⟩ = some (.slice none 0 0) := by rw [Lib.cell_of_heap hP]; rfl
    have r0 : w8.cell? ⟨w2.heap.size + 4, 0, none⟩ = some (.slice (some ⟨w2.heap.size, 0, none⟩) 2 2) := by rw [Lib.cell_of_heap kS2]; rfl
    have r1 : w8.cell? ⟨w2.heap.size + 4, 1, none⟩ = some (.slice (some ⟨w2.heap.size + 3, 0, none⟩) 1 1) := by rw [Lib.cell_of_heap kS2]; rfl
    go_wp2_with fail
    refine C.mono ?_
    clear C q0 q1 q2 q3 q4 q5 q6 q7 q8 q9 q10 r0 r1
    rintro e9 w9 ⟨rfl, b9⟩
    have b0Z := bP.trans (b9.mono bP.size)
    go_wp2
    go_ret
    exact ⟨rfl, b0Z⟩
  · have kS := k5
    have kP := k6
    have hS := hS6
    have b07 := b06
    have s0 := heap_setCell_same w6 (w2.heap.size + 5) 4 _ _ (.int .i64 1) kP
    have s1 := heap_setCell_same (w6.setCell ⟨w2.heap.size + 5, 4, none⟩ (.int .i64 1)) (w2.heap.size + 5) 5 _ _ (.string ⟨#[65, 99, 116, 105, 111, 110]⟩) s0
    have s2 := heap_setCell_same ((w6.setCell ⟨w2.heap.size + 5, 4, none⟩ (.int .i64 1)).setCell ⟨w2.heap.size + 5, 5, none⟩ (.string ⟨#[65, 99, 116, 105, 111, 110]⟩)) (w2.heap.size + 5) 6 _ _ (.string ⟨#[110, 111, 112, 101]⟩) s1
    have hP : (((w6.setCell ⟨w2.heap.size + 5, 4, none⟩ (.int .i64 1)).setCell ⟨w2.heap.size + 5, 5, none⟩ (.string ⟨#[65, 99, 116, 105, 111, 110]⟩)).setCell ⟨w2.heap.size + 5, 6, none⟩ (.string ⟨#[110, 111, 112, 101]⟩)).heap[w2.heap.size + 5]? = some (.cells #[.bool z, .int .i64 0, .string ⟨#[]⟩, .string ⟨#[]⟩, .int .i64 1, .string ⟨#[65, 99, 116, 105, 111, 110]⟩, .string ⟨#[110, 111, 112, 101]⟩, .int .i64 0, .string ⟨#[]⟩, .string ⟨#[]⟩, .slice none 0 0] 59 (0, 0)) := s2
    have bP := (((b07.setCell (p := ⟨w2.heap.size + 5, 4, none⟩) hPge (.int .i64 1)).setCell (p := ⟨w2.heap.size + 5, 5, none⟩) hPge (.string ⟨#[65, 99, 116, 105, 111, 110]⟩)).setCell (p := ⟨w2.heap.size + 5, 6, none⟩) hPge (.string ⟨#[110, 111, 112, 101]⟩))
    have keepB : ∀ b, b ≠ w2.heap.size + 5 → (((w6.setCell ⟨w2.heap.size + 5, 4, none⟩ (.int .i64 1)).setCell ⟨w2.heap.size + 5, 5, none⟩ (.string ⟨#[65, 99, 116, 105, 111, 110]⟩)).setCell ⟨w2.heap.size + 5, 6, none⟩ (.string ⟨#[110, 111, 112, 101]⟩)).heap[b]? = w6.heap[b]? := fun b hb => (Below.heap_setCell _ ⟨w2.heap.size + 5, 6, none⟩ _ b hb).trans ((Below.heap_setCell _ ⟨w2.heap.size + 5, 5, none⟩ _ b hb).trans ((Below.heap_setCell _ ⟨w2.heap.size + 5, 4, none⟩ _ b hb)))
    have hS2 : IsS (((w6.setCell ⟨w2.heap.size + 5, 4, none⟩ (.int .i64 1)).setCell ⟨w2.heap.size + 5, 5, none⟩ (.string ⟨#[65, 99, 116, 105, 111, 110]⟩)).setCell ⟨w2.heap.size + 5, 6, none⟩ (.string ⟨#[110, 111, 112, 101]⟩)) (.agg #[.slice (some ⟨w2.heap.size, 0, none⟩) 2 2, .slice (some ⟨w2.heap.size + 3, 0, none⟩) 1 1]) refS := isS_ref ((keepB _ (by omega)).trans k1) ((keepB _ (by omega)).trans k2) ((keepB _ (by omega)).trans k3) ((keepB _ (by omega)).trans k4)
    have kS2 := (keepB (w2.heap.size + 4) (by omega)).trans kS
    have hCs : IsCs (((w6.setCell ⟨w2.heap.size + 5, 4, none⟩ (.int .i64 1)).setCell ⟨w2.heap.size + 5, 5, none⟩ (.string ⟨#[65, 99, 116, 105, 111, 110]⟩)).setCell ⟨w2.heap.size + 5, 6, none⟩ (.string ⟨#[110, 111, 112, 101]⟩)) none [] := fun j hj => absurd hj (Nat.not_lt_zero _)
    have C := yCheck_any refS _ (z) (0) (⟨#[]⟩) (⟨#[]⟩) (1) (⟨#[65, 99, 116, 105, 111, 110]⟩) (⟨#[110, 111, 112, 101]⟩) (0) (⟨#[]⟩) (⟨#[]⟩) (none) 0 0 [] _ rfl (Nat.le_of_ble_eq_true rfl) (fun _ h => absurd h List.not_mem_nil) sm_ref (by decide) few_ref (Nat.le_of_ble_eq_true (by kernel_rfl)) hS2 hCs
    rw [show checkP refS _ _ [] = 15 by kernel_rfl] at C
    have pz4 : w6.cell? ⟨w2.heap.size + 5, 4, none⟩ = some (.int .i64 0) := by rw [Lib.cell_of_heap kP]; rfl
    have pz5 : w6.cell? ⟨w2.heap.size + 5, 5, none⟩ = some (.string ⟨#[]⟩) := by rw [Lib.cell_of_heap kP]; rfl
    have pz6 : w6.cell? ⟨w2.heap.size + 5, 6, none⟩ = some (.string ⟨#[]⟩) := by rw [Lib.cell_of_heap kP]; rfl
    have pf : ∀ o, w6.frozen? ⟨w2.heap.size + 5, o, none⟩ = false := fun o => Lib.frozen_of_heap kP o
    go_upto_region 21 with fail
    clear pf pz4 pz5 pz6
    obtain ⟨w8, hw8⟩ : ∃ q, q = (((w6.setCell ⟨w2.heap.size + 5, 4, none⟩ (.int .i64 1)).setCell ⟨w2.heap.size + 5, 5, none⟩ (.string ⟨#[65, 99, 116, 105, 111, 110]⟩)).setCell ⟨w2.heap.size + 5, 6, none⟩ (.string ⟨#[110, 111, 112, 101]⟩)) := ⟨_, rfl⟩
    rw [← hw8] at C hP kS2 bP ⊢
    clear hw8 hS2 hCs keepB
    have q0 : w8.cell? ⟨w2.heap.size + 5, 0, none⟩ = some (.bool z) := by rw [Lib.cell_of_heap hP]; rfl
    have q1 : w8.cell? ⟨w2.heap.size + 5, 1, none⟩ = some (.int .i64 0) := by rw [Lib.cell_of_heap hP]; rfl
    have q2 : w8.cell? ⟨w2.heap.size + 5, 2, none⟩ = some (.string ⟨#[]⟩) := by rw [Lib.cell_of_heap hP]; rfl
    have q3 : w8.cell? ⟨w2.heap.size + 5, 3, none⟩ = some (.string ⟨#[]⟩) := by rw [Lib.cell_of_heap hP]; rfl
    have q4 : w8.cell? ⟨w2.heap.size + 5, 4, none⟩ = some (.int .i64 1) := by rw [Lib.cell_of_heap hP]; rfl
    have q5 : w8.cell? ⟨w2.heap.size + 5, 5, none⟩ = some (.string ⟨#[65, 99, 116, 105, 111, 110]⟩) := by rw [Lib.cell_of_heap hP]; rfl
    have q6 : w8.cell? ⟨w2.heap.size + 5, 6, none⟩ = some (.string ⟨#[110, 111, 112, 101]⟩) := by rw [Lib.cell_of_heap hP]; rfl
    have q7 : w8.cell? ⟨w2.heap.size + 5, 7, none⟩ = some (.int .i64 0) := by rw [Lib.cell_of_heap hP]; rfl
    have q8 : w8.cell? ⟨w2.heap.size + 5, 8, none⟩ = some (.string ⟨#[]⟩) := by rw [Lib.cell_of_heap hP]; rfl
    have q9 : w8.cell? ⟨w2.heap.size + 5, 9, none⟩ = some (.string ⟨#[]⟩) := by rw [Lib.cell_of_heap hP]; rfl
    have q10 : w8.cell? ⟨w2.heap.size + 5, 10, none⟩ = some (.slice none 0 0) := by rw [Lib.cell_of_heap hP]; rfl
    have r0 : w8.cell? ⟨w2.heap.size + 4, 0, none⟩ = some (.slice (some ⟨w2.heap.size, 0, none⟩) 2 2) := by rw [Lib.cell_of_heap kS2]; rfl
    have r1 : w8.cell? ⟨w2.heap.size + 4, 1, none⟩ = some (.slice (some ⟨w2.heap.size + 3, 0, none⟩) 1 1) := by rw [Lib.cell_of_heap kS2]; rfl
    go_wp2_with fail
    refine C.mono ?_
    clear C q0 q1 q2 q3 q4 q5 q6 q7 q8 q9 q10 r0 r1
    rintro e9 w9 ⟨rfl, b9⟩
    have b0Z := bP.trans (b9.mono bP.size)
    go_wp2
    go_ret
    exact ⟨rfl, b0Z⟩
  · have kS := k5
    have kP := k6
    have hS := hS6
    have b07 := b06
    have s0 := heap_setCell_same w6 (w2.heap.size + 5) 4 _ _ (.int .i64 2) kP
    have s1 := heap_setCell_same (w6.setCell ⟨w2.heap.size + 5, 4, none⟩ (.int .i64 2)) (w2.heap.size + 5) 5 _ _ (.string ⟨#[85, 115, 101, 114]⟩) s0
    have s2 := heap_setCell_same ((w6.setCell ⟨w2.heap.size + 5, 4, none⟩ (.int .i64 2)).setCell ⟨w2.heap.size + 5, 5, none⟩ (.string ⟨#[85, 115, 101, 114]⟩)) (w2.heap.size + 5) 6 _ _ (.string ⟨#[117]⟩) s1
    have hP : (((w6.setCell ⟨w2.heap.size + 5, 4, none⟩ (.int .i64 2)).setCell ⟨w2.heap.size + 5, 5, none⟩ (.string ⟨#[85, 115, 101, 114]⟩)).setCell ⟨w2.heap.size + 5, 6, none⟩ (.string ⟨#[117]⟩)).heap[w2.heap.size + 5]? = some (.cells #[.bool z, .int .i64 0, .string ⟨#[]⟩, .string ⟨#[]⟩, .int .i64 2, .string ⟨#[85, 115, 101, 114]⟩, .string ⟨#[117]⟩, .int .i64 0, .string ⟨#[]⟩, .string ⟨#[]⟩, .slice none 0 0] 59 (0, 0)) := s2
    have bP := (((b07.setCell (p := ⟨w2.heap.size + 5, 4, none⟩) hPge (.int .i64 2)).setCell (p := ⟨w2.heap.size + 5, 5, none⟩) hPge (.string ⟨#[85, 115, 101, 114]⟩)).setCell (p := ⟨w2.heap.size + 5, 6, none⟩) hPge (.string ⟨#[117]⟩))
    have keepB : ∀ b, b ≠ w2.heap.size + 5 → (((w6.setCell ⟨w2.heap.size + 5, 4, none⟩ (.int .i64 2)).setCell ⟨w2.heap.size + 5, 5, none⟩ (.string ⟨#[85, 115, 101, 114]⟩)).setCell ⟨w2.heap.size + 5, 6, none⟩ (.string ⟨#[117]⟩)).heap[b]? = w6.heap[b]? := fun b hb => (Below.heap_setCell _ ⟨w2.heap.size + 5, 6, none⟩ _ b hb).trans ((Below.heap_setCell _ ⟨w2.heap.size + 5, 5, none⟩ _ b hb).trans ((Below.heap_setCell _ ⟨w2.heap.size + 5, 4, none⟩ _ b hb)))
    have hS2 : IsS (((w6.setCell ⟨w2.heap.size + 5, 4, none⟩ (.int .i64 2)).setCell ⟨w2.heap.size + 5, 5, none⟩ (.string ⟨#[85, 115, 101, 114]⟩)).setCell ⟨w2.heap.size + 5, 6, none⟩ (.string ⟨#[117]⟩)) (.agg #[.slice (some ⟨w2.heap.size, 0, none⟩) 2 2, .slice (some ⟨w2.heap.size + 3, 0, none⟩) 1 1]) refS := isS_ref ((keepB _ (by omega)).trans k1) ((keepB _ (by omega)).trans k2) ((keepB _ (by omega)).trans k3) ((keepB _ (by omega)).trans k4)
    have kS2 := (keepB (w2.heap.size + 4) (by omega)).trans kS
    have hCs : IsCs (((w6.setCell ⟨w2.heap.size + 5, 4, none⟩ (.int .i64 2)).setCell ⟨w2.heap.size + 5, 5, none⟩ (.string ⟨#[85, 115, 101, 114]⟩)).setCell ⟨w2.heap.size + 5, 6, none⟩ (.string ⟨#[117]⟩)) none [] := fun j hj => absurd hj (Nat.not_lt_zero _)
    have C := yCheck_any refS _ (z) (0) (⟨#[]⟩) (⟨#[]⟩) (2) (⟨#[85, 115, 101, 114]⟩) (⟨#[117]⟩) (0) (⟨#[]⟩) (⟨#[]⟩) (none) 0 0 [] _ rfl (Nat.le_of_ble_eq_true rfl) (fun _ h => absurd h List.not_mem_nil) sm_ref (by decide) few_ref (Nat.le_of_ble_eq_true (by kernel_rfl)) hS2 hCs
    rw [show checkP refS _ _ [] = 2 by kernel_rfl] at C
    have pz4 : w6.cell? ⟨w2.heap.size + 5, 4, none⟩ = some (.int .i64 0) := by rw [Lib.cell_of_heap kP]; rfl
    have pz5 : w6.cell? ⟨w2.heap.size + 5, 5, none⟩ = some (.string ⟨#[]⟩) := by rw [Lib.cell_of_heap kP]; rfl
    have pz6 : w6.cell? ⟨w2.heap.size + 5, 6, none⟩ = some (.string ⟨#[]⟩) := by rw [Lib.cell_of_heap kP]; rfl
    have pf : ∀ o, w6.frozen? ⟨w2.heap.size + 5, o, none⟩ = false := fun o => Lib.frozen_of_heap kP o
    go_upto_region 21 with fail
    clear pf pz4 pz5 pz6
    obtain ⟨w8, hw8⟩ : ∃ q, q = (((w6.setCell ⟨w2.heap.size + 5, 4, none⟩ (.int .i64 2)).setCell ⟨w2.heap.size + 5, 5, none⟩ (.string ⟨#[85, 115, 101, 114]⟩)).setCell ⟨w2.heap.size + 5, 6, none⟩ (.string ⟨#[117]⟩)) := ⟨_, rfl⟩
    rw [← hw8] at C hP kS2 bP ⊢
    clear hw8 hS2 hCs keepB
    have q0 : w8.cell? ⟨w2.heap.size + 5, 0, none⟩ = some (.bool z) := by rw [Lib.cell_of_heap hP]; rfl
    have q1 : w8.cell? ⟨w2.heap.size + 5, 1, none⟩ = some (.int .i64 0) := by rw [Lib.cell_of_heap hP]; rfl
    have q2 : w8.cell? ⟨w2.heap.size + 5, 2, none⟩ = some (.string ⟨#[]⟩) := by rw [Lib.cell_of_heap hP]; rfl
    have q3 : w8.cell? ⟨w2.heap.size + 5, 3, none⟩ = some (.string ⟨#[]⟩) := by rw [Lib.cell_of_heap hP]; rfl
    have q4 : w8.cell? ⟨w2.heap.size + 5, 4, none⟩ = some (.int .i64 2) := by rw [Lib.cell_of_heap hP]; rfl
    have q5 : w8.cell? ⟨w2.heap.size + 5, 5, none⟩ = some (.string ⟨#[85, 115, 101, 114]⟩) := by rw [Lib.cell_of_heap hP]; rfl
    have q6 : w8.cell? ⟨w2.heap.size + 5, 6, none⟩ = some (.string ⟨#[117]⟩) := by rw [Lib.cell_of_heap hP]; rfl
    have q7 : w8.cell? ⟨w2.heap.size + 5, 7, none⟩ = some (.int .i64 0) := by rw [Lib.cell_of_heap hP]; rfl
    have q8 : w8.cell? ⟨w2.heap.size + 5, 8, none⟩ = some (.string ⟨#[]⟩) := by rw [Lib.cell_of_heap hP]; rfl
    have q9 : w8.cell? ⟨w2.heap.size + 5, 9, none⟩ = some (.string ⟨#[]⟩) := by rw [Lib.cell_of_heap hP]; rfl
    have q10 : w8.cell? ⟨w2.heap.size + 5, 10, none⟩ = some (.slice none 0 0) := by rw [Lib.cell_of_heap hP]; rfl
    have r0 : w8.cell? ⟨w2.heap.size + 4, 0, none⟩ = some (.slice (some ⟨w2.heap.size, 0, none⟩) 2 2) := by rw [Lib.cell_of_heap kS2]; rfl
    have r1 : w8.cell? ⟨w2.heap.size + 4, 1, none⟩ = some (.slice (some ⟨w2.heap.size + 3, 0, none⟩) 1 1) := by rw [Lib.cell_of_heap kS2]; rfl
    go_wp2_with fail
    refine C.mono ?_
    clear C q0 q1 q2 q3 q4 q5 q6 q7 q8 q9 q10 r0 r1
    rintro e9 w9 ⟨rfl, b9⟩
    have b0Z := bP.trans (b9.mono bP.size)
    go_wp2
    go_ret
    exact ⟨rfl, b0Z⟩
  · have kS := k5
    have kP := k6
    have hS := hS6
    have b07 := b06
    have s0 := heap_setCell_same w6 (w2.heap.size + 5) 1 _ _ (.int .i64 2) kP
    have s1 := heap_setCell_same (w6.setCell ⟨w2.heap.size + 5, 1, none⟩ (.int .i64 2)) (w2.heap.size + 5) 2 _ _ (.string ⟨#[68, 111, 99]⟩) s0
    have s2 := heap_setCell_same ((w6.setCell ⟨w2.heap.size + 5, 1, none⟩ (.int .i64 2)).setCell ⟨w2.heap.size + 5, 2, none⟩ (.string ⟨#[68, 111, 99]⟩)) (w2.heap.size + 5) 3 _ _ (.string ⟨#[100]⟩) s1
    have hP : (((w6.setCell ⟨w2.heap.size + 5, 1, none⟩ (.int .i64 2)).setCell ⟨w2.heap.size + 5, 2, none⟩ (.string ⟨#[68, 111, 99]⟩)).setCell ⟨w2.heap.size + 5, 3, none⟩ (.string ⟨#[100]⟩)).heap[w2.heap.size + 5]? = some (.cells #[.bool z, .int .i64 2, .string ⟨#[68, 111, 99]⟩, .string ⟨#[100]⟩, .int .i64 0, .string ⟨#[]⟩, .string ⟨#[]⟩, .int .i64 0, .string ⟨#[]⟩, .string ⟨#[]⟩, .slice none 0 0] 59 (0, 0)) := s2
    have bP := (((b07.setCell (p := ⟨w2.heap.size + 5, 1, none⟩) hPge (.int .i64 2)).setCell (p := ⟨w2.heap.size + 5, 2, none⟩) hPge (.string ⟨#[68, 111, 99]⟩)).setCell (p := ⟨w2.heap.size + 5, 3, none⟩) hPge (.string ⟨#[100]⟩))
    have keepB : ∀ b, b ≠ w2.heap.size + 5 → (((w6.setCell ⟨w2.heap.size + 5, 1, none⟩ (.int .i64 2)).setCell ⟨w2.heap.size + 5, 2, none⟩ (.string ⟨#[68, 111, 99]⟩)).setCell ⟨w2.heap.size + 5, 3, none⟩ (.string ⟨#[100]⟩)).heap[b]? = w6.heap[b]? := fun b hb => (Below.heap_setCell _ ⟨w2.heap.size + 5, 3, none⟩ _ b hb).trans ((Below.heap_setCell _ ⟨w2.heap.size + 5, 2, none⟩ _ b hb).trans ((Below.heap_setCell _ ⟨w2.heap.size + 5, 1, none⟩ _ b hb)))
    have hS2 : IsS (((w6.setCell ⟨w2.heap.size + 5, 1, none⟩ (.int .i64 2)).setCell ⟨w2.heap.size + 5, 2, none⟩ (.string ⟨#[68, 111, 99]⟩)).setCell ⟨w2.heap.size + 5, 3, none⟩ (.string ⟨#[100]⟩)) (.agg #[.slice (some ⟨w2.heap.size, 0, none⟩) 2 2, .slice (some ⟨w2.heap.size + 3, 0, none⟩) 1 1]) refS := isS_ref ((keepB _ (by omega)).trans k1) ((keepB _ (by omega)).trans k2) ((keepB _ (by omega)).trans k3) ((keepB _ (by omega)).trans k4)
    have kS2 := (keepB (w2.heap.size + 4) (by omega)).trans kS
    have hCs : IsCs (((w6.setCell ⟨w2.heap.size + 5, 1, none⟩ (.int .i64 2)).setCell ⟨w2.heap.size + 5, 2, none⟩ (.string ⟨#[68, 111, 99]⟩)).setCell ⟨w2.heap.size + 5, 3, none⟩ (.string ⟨#[100]⟩)) none [] := fun j hj => absurd hj (Nat.not_lt_zero _)
    have C := yCheck_any refS _ (z) (2) (⟨#[68, 111, 99]⟩) (⟨#[100]⟩) (0) (⟨#[]⟩) (⟨#[]⟩) (0) (⟨#[]⟩) (⟨#[]⟩) (none) 0 0 [] _ rfl (Nat.le_of_ble_eq_true rfl) (fun _ h => absurd h List.not_mem_nil) sm_ref (by decide) few_ref (Nat.le_of_ble_eq_true (by kernel_rfl)) hS2 hCs
    rw [show checkP refS _ _ [] = 0 by kernel_rfl] at C
    have pz1 : w6.cell? ⟨w2.heap.size + 5, 1, none⟩ = some (.int .i64 0) := by rw [Lib.cell_of_heap kP]; rfl
    have pz2 : w6.cell? ⟨w2.heap.size + 5, 2, none⟩ = some (.string ⟨#[]⟩) := by rw [Lib.cell_of_heap kP]; rfl
    have pz3 : w6.cell? ⟨w2.heap.size + 5, 3, none⟩ = some (.string ⟨#[]⟩) := by rw [Lib.cell_of_heap kP]; rfl
    have pf : ∀ o, w6.frozen? ⟨w2.heap.size + 5, o, none⟩ = false := fun o => Lib.frozen_of_heap kP o
    go_upto_region 21 with fail
    clear pf pz1 pz2 pz3
    obtain ⟨w8, hw8⟩ : ∃ q, q = (((w6.setCell ⟨w2.heap.size + 5, 1, none⟩ (.int .i64 2)).setCell ⟨w2.heap.size + 5, 2, none⟩ (.string ⟨#[68, 111, 99]⟩)).setCell ⟨w2.heap.size + 5, 3, none⟩ (.string ⟨#[100]⟩)) := ⟨_, rfl⟩
    rw [← hw8] at C hP kS2 bP ⊢
    clear hw8 hS2 hCs keepB
    have q0 : w8.cell? ⟨w2.heap.size + 5, 0, none⟩ = some (.bool z) := by rw [Lib.cell_of_heap hP]; rfl
    have q1 : w8.cell? ⟨w2.heap.size + 5, 1, none⟩ = some (.int .i64 2) := by rw [Lib.cell_of_heap hP]; rfl
    have q2 : w8.cell? ⟨w2.heap.size + 5, 2, none⟩ = some (.string ⟨#[68, 111, 99]⟩) := by rw [Lib.cell_of_heap hP]; rfl
    have q3 : w8.cell? ⟨w2.heap.size + 5, 3, none⟩ = some (.string ⟨#[100]⟩) := by rw [Lib.cell_of_heap hP]; rfl
    have q4 : w8.cell? ⟨w2.heap.size + 5, 4, none⟩ = some (.int .i64 0) := by rw [Lib.cell_of_heap hP]; rfl
    have q5 : w8.cell? ⟨w2.heap.size + 5, 5, none⟩ = some (.string ⟨#[]⟩) := by rw [Lib.cell_of_heap hP]; rfl
    have q6 : w8.cell? ⟨w2.heap.size + 5, 6, none⟩ = some (.string ⟨#[]⟩) := by rw [Lib.cell_of_heap hP]; rfl
    have q7 : w8.cell? ⟨w2.heap.size + 5, 7, none⟩ = some (.int .i64 0) := by rw [Lib.cell_of_heap hP]; rfl
    have q8 : w8.cell? ⟨w2.heap.size + 5, 8, none⟩ = some (.string ⟨#[]⟩) := by rw [Lib.cell_of_heap hP]; rfl
    have q9 : w8.cell? ⟨w2.heap.size + 5, 9, none⟩ = some (.string ⟨#[]⟩) := by rw [Lib.cell_of_heap hP]; rfl
    have q10 : w8.cell? ⟨w2.heap.size + 5, 10, none⟩ = some (.slice none 0 0) := by rw [Lib.cell_of_heap hP]; rfl
    have r0 : w8.cell? ⟨w2.heap.size + 4, 0, none⟩ = some (.slice (some ⟨w2.heap.size, 0, none⟩) 2 2) := by rw [Lib.cell_of_heap kS2]; rfl
    have r1 : w8.cell? ⟨w2.heap.size + 4, 1, none⟩ = some (.slice (some ⟨w2.heap.size + 3, 0, none⟩) 1 1) := by rw [Lib.cell_of_heap kS2]; rfl
    go_wp2_with fail
    refine C.mono ?_
    clear C q0 q1 q2 q3 q4 q5 q6 q7 q8 q9 q10 r0 r1
    rintro e9 w9 ⟨rfl, b9⟩
    have b0Z := bP.trans (b9.mono bP.size)
    go_wp2
    go_ret
    exact ⟨rfl, b0Z⟩
  · have b7 := blw1 w6 (.cells #[.bool true, .int .i64 1, .bool (n.tmod 3 == 0), .int .i64 0, .string ⟨#[]⟩, .string ⟨#[]⟩, .string ⟨#[]⟩, .slice none 0 0] 61)
    have h7 := alloc_heap w6 (.cells #[.bool true, .int .i64 1, .bool (n.tmod 3 == 0), .int .i64 0, .string ⟨#[]⟩, .string ⟨#[]⟩, .string ⟨#[]⟩, .slice none 0 0] 61)
    have kS := kept_of_below b7 k5
    have kP := kept_of_below b7 k6
    have hS := hS6.below b7
    have b07 := b06.trans (b7.mono b06.size)
    have s0 := heap_setCell_same (w6.alloc (.cells #[.bool true, .int .i64 1, .bool (n.tmod 3 == 0), .int .i64 0, .string ⟨#[]⟩, .string ⟨#[]⟩, .string ⟨#[]⟩, .slice none 0 0] 61)) (w2.heap.size + 5) 10 _ _ (.slice (some ⟨w6.heap.size, 0, none⟩) 1 1) kP
    have hP : ((w6.alloc (.cells #[.bool true, .int .i64 1, .bool (n.tmod 3 == 0), .int .i64 0, .string ⟨#[]⟩, .string ⟨#[]⟩, .string ⟨#[]⟩, .slice none 0 0] 61)).setCell ⟨w2.heap.size + 5, 10, none⟩ (.slice (some ⟨w6.heap.size, 0, none⟩) 1 1)).heap[w2.heap.size + 5]? = some (.cells #[.bool z, .int .i64 0, .string ⟨#[]⟩, .string ⟨#[]⟩, .int .i64 0, .string ⟨#[]⟩, .string ⟨#[]⟩, .int .i64 0, .string ⟨#[]⟩, .string ⟨#[]⟩, .slice (some ⟨w6.heap.size, 0, none⟩) 1 1] 59 (0, 0)) := s0
    have bP := (b07.setCell (p := ⟨w2.heap.size + 5, 10, none⟩) hPge (.slice (some ⟨w6.heap.size, 0, none⟩) 1 1))
    have keepB : ∀ b, b ≠ w2.heap.size + 5 → ((w6.alloc (.cells #[.bool true, .int .i64 1, .bool (n.tmod 3 == 0), .int .i64 0, .string ⟨#[]⟩, .string ⟨#[]⟩, .string ⟨#[]⟩, .slice none 0 0] 61)).setCell ⟨w2.heap.size + 5, 10, none⟩ (.slice (some ⟨w6.heap.size, 0, none⟩) 1 1)).heap[b]? = (w6.alloc (.cells #[.bool true, .int .i64 1, .bool (n.tmod 3 == 0), .int .i64 0, .string ⟨#[]⟩, .string ⟨#[]⟩, .string ⟨#[]⟩, .slice none 0 0] 61)).heap[b]? := fun b hb => (Below.heap_setCell _ ⟨w2.heap.size + 5, 10, none⟩ _ b hb)
    have hS2 : IsS ((w6.alloc (.cells #[.bool true, .int .i64 1, .bool (n.tmod 3 == 0), .int .i64 0, .string ⟨#[]⟩, .string ⟨#[]⟩, .string ⟨#[]⟩, .slice none 0 0] 61)).setCell ⟨w2.heap.size + 5, 10, none⟩ (.slice (some ⟨w6.heap.size, 0, none⟩) 1 1)) (.agg #[.slice (some ⟨w2.heap.size, 0, none⟩) 2 2, .slice (some ⟨w2.heap.size + 3, 0, none⟩) 1 1]) refS := isS_ref ((keepB _ (by omega)).trans (kept_of_below b7 k1)) ((keepB _ (by omega)).trans (kept_of_below b7 k2)) ((keepB _ (by omega)).trans (kept_of_below b7 k3)) ((keepB _ (by omega)).trans (kept_of_below b7 k4))
    have kS2 := (keepB (w2.heap.size + 4) (by omega)).trans kS
    have hPne : w6.heap.size ≠ w2.heap.size + 5 := by omega
    have hC := (keepB w6.heap.size hPne).trans h7
    have hCs : IsCs ((w6.alloc (.cells #[.bool true, .int .i64 1, .bool (n.tmod 3 == 0), .int .i64 0, .string ⟨#[]⟩, .string ⟨#[]⟩, .string ⟨#[]⟩, .slice none 0 0] 61)).setCell ⟨w2.heap.size + 5, 10, none⟩ (.slice (some ⟨w6.heap.size, 0, none⟩) 1 1)) (some ⟨w6.heap.size, 0, none⟩) [(true, (eBool (n.tmod 3 == 0)))] := isCs_one hC (isE_leaf _ 1 (n.tmod 3 == 0) 0 [] [] [] 0 none)
    have C := yCheck_any refS _ (z) (0) (⟨#[]⟩) (⟨#[]⟩) (0) (⟨#[]⟩) (⟨#[]⟩) (0) (⟨#[]⟩) (⟨#[]⟩) (some ⟨w6.heap.size, 0, none⟩) 1 1 [(true, (eBool (n.tmod 3 == 0)))] _ rfl (Nat.le_of_ble_eq_true rfl) (mild_one (Nat.le_of_ble_eq_true rfl) rfl) sm_ref (by decide) few_ref (Nat.le_of_ble_eq_true (by kernel_rfl)) hS2 hCs
    rw [show checkP refS _ _ [(true, (eBool (n.tmod 3 == 0)))] = 0 by kernel_rfl] at C
    have pz10 : (w6.alloc (.cells #[.bool true, .int .i64 1, .bool (n.tmod 3 == 0), .int .i64 0, .string ⟨#[]⟩, .string ⟨#[]⟩, .string ⟨#[]⟩, .slice none 0 0] 61)).cell? ⟨w2.heap.size + 5, 10, none⟩ = some (.slice none 0 0) := by rw [Lib.cell_of_heap kP]; rfl
    have pf : ∀ o, (w6.alloc (.cells #[.bool true, .int .i64 1, .bool (n.tmod 3 == 0), .int .i64 0, .string ⟨#[]⟩, .string ⟨#[]⟩, .string ⟨#[]⟩, .slice none 0 0] 61)).frozen? ⟨w2.heap.size + 5, o, none⟩ = false := fun o => Lib.frozen_of_heap kP o
    go_upto_region 21 with fail
    clear pf pz10
    have comm := World.setCell_alloc_past (w := w6) (.cells #[.bool true, .int .i64 1, .bool (n.tmod 3 == 0), .int .i64 0, .string ⟨#[]⟩, .string ⟨#[]⟩, .string ⟨#[]⟩, .slice none 0 0] 61) (w2.heap.size + 5) 10 (.slice (some ⟨w6.heap.size, 0, none⟩) 1 1) hPlt
    rw [comm] at C hP kS2 bP hS2 hCs keepB
    obtain ⟨w8, hw8⟩ : ∃ q, q = ((w6.setCell ⟨w2.heap.size + 5, 10, none⟩ (.slice (some ⟨w6.heap.size, 0, none⟩) 1 1)).alloc (.cells #[.bool true, .int .i64 1, .bool (n.tmod 3 == 0), .int .i64 0, .string ⟨#[]⟩, .string ⟨#[]⟩, .string ⟨#[]⟩, .slice none 0 0] 61)) := ⟨_, rfl⟩
    rw [← hw8] at C hP kS2 bP ⊢
    clear hw8 hS2 hCs keepB
    have q0 : w8.cell? ⟨w2.heap.size + 5, 0, none⟩ = some (.bool z) := by rw [Lib.cell_of_heap hP]; rfl
    have q1 : w8.cell? ⟨w2.heap.size + 5, 1, none⟩ = some (.int .i64 0) := by rw [Lib.cell_of_heap hP]; rfl
    have q2 : w8.cell? ⟨w2.heap.size + 5, 2, none⟩ = some (.string ⟨#[]⟩) := by rw [Lib.cell_of_heap hP]; rfl
    have q3 : w8.cell? ⟨w2.heap.size + 5, 3, none⟩ = some (.string ⟨#[]⟩) := by rw [Lib.cell_of_heap hP]; rfl
    have q4 : w8.cell? ⟨w2.heap.size + 5, 4, none⟩ = some (.int .i64 0) := by rw [Lib.cell_of_heap hP]; rfl
    have q5 : w8.cell? ⟨w2.heap.size + 5, 5, none⟩ = some (.string ⟨#[]⟩) := by rw [Lib.cell_of_heap hP]; rfl
    have q6 : w8.cell? ⟨w2.heap.size + 5, 6, none⟩ = some (.string ⟨#[]⟩) := by rw [Lib.cell_of_heap hP]; rfl
    have q7 : w8.cell? ⟨w2.heap.size + 5, 7, none⟩ = some (.int .i64 0) := by rw [Lib.cell_of_heap hP]; rfl
    have q8 : w8.cell? ⟨w2.heap.size + 5, 8, none⟩ = some (.string ⟨#[]⟩) := by rw [Lib.cell_of_heap hP]; rfl
    have q9 : w8.cell? ⟨w2.heap.size + 5, 9, none⟩ = some (.string ⟨#[]⟩) := by rw [Lib.cell_of_heap hP]; rfl
    have q10 : w8.cell? ⟨w2.heap.size + 5, 10, none⟩ = some (.slice (some ⟨w6.heap.size, 0, none⟩) 1 1) := by rw [Lib.cell_of_heap hP]; rfl
    have r0 : w8.cell? ⟨w2.heap.size + 4, 0, none⟩ = some (.slice (some ⟨w2.heap.size, 0, none⟩) 2 2) := by rw [Lib.cell_of_heap kS2]; rfl
    have r1 : w8.cell? ⟨w2.heap.size + 4, 1, none⟩ = some (.slice (some ⟨w2.heap.size + 3, 0, none⟩) 1 1) := by rw [Lib.cell_of_heap kS2]; rfl
    go_wp2_with fail
    refine C.mono ?_
    clear C q0 q1 q2 q3 q4 q5 q6 q7 q8 q9 q10 r0 r1
    rintro e9 w9 ⟨rfl, b9⟩
    have b0Z := bP.trans (b9.mono bP.size)
    go_wp2
    go_ret
    exact ⟨rfl, b0Z⟩
end Go.Proofs.Ytjajhmojcmfidab
