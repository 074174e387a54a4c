/-
  chancellaw3.Plain: what it returns.
-/
import Derived.Test.YtppincbcaijcbaaGreatVeB
namespace Go.Proofs.YtppincbcaijcbaaGreat
open Go.RowKit Go.Sort

/-- What Plain makes, by the kind. -/
def plainV (k : Nat) (n : Int) (xs : List Int) : PV :=
  if k = 1 then .bool (n.tmod 2 == 0) else if k = 2 then .long n else if k = 3 then .str (idt xs) else .uid (tyL.getD (tyI n) []) (idt xs)

set_option maxHeartbeats 2000000 in
set_option maxRecDepth 1000000 in
theorem plain3_any (kd : Nat) (h1 : 1 ≤ kd) (h4 : kd ≤ 4) (k n : Int) (xs : List Int) (so : Option Addr) (sc : Nat) (lo : Option Addr) (ll lc : Nat) (w : World) (hl : xs.length ≤ 9223372036854775807) (hc : xs.length ≤ sc) (hz : IntsAt w so xs) :
    Calls Tryz.prog 24 #[.agg #[.int .i64 k, .int .i64 n, .slice so xs.length sc, .slice lo ll lc], .int .i64 kd] w fun e w' => e = .returned (ofP (plainV kd n xs)).val ∧ Below w.heap.size w w' := by
  have b2 := below2 w (.cells #[.int .i64 k, .int .i64 n, .slice so xs.length sc, .slice lo ll lc] 30) (.cells #[.int .i64 0, .bool false, .int .i64 0, .string ⟨#[]⟩, .string ⟨#[]⟩, .string ⟨#[]⟩, .slice none 0 0] 26)
  have ID := id3_any xs so sc _ hl hc (hz.below b2)
  have UI := uid3_any k n xs so sc lo ll lc _ hl hc (hz.below b2)
  match kd, h1, h4 with
  | 1, _, _ =>
    have e : plainV 1 n xs = .bool (n.tmod 2 == 0) := rfl
    rw [e]
    clear ID UI
    go_enter Tryz.func24, Tryz.ntmps24
    go_wp2
    exact bodyPost_ret (v := .agg #[.int .i64 1, .bool (n.tmod 2 == 0), .int .i64 0, .string ⟨#[]⟩, .string ⟨#[]⟩, .string ⟨#[]⟩, .slice none 0 0]) (by simp [results, Tryz.results24, go_sem]) rfl ⟨rfl, below2 _ _ _⟩
  | 2, _, _ =>
    have e : plainV 2 n xs = .long n := rfl
    rw [e]
    clear ID UI
    go_enter Tryz.func24, Tryz.ntmps24
    go_wp2
    exact bodyPost_ret (v := .agg #[.int .i64 2, .bool false, .int .i64 n, .string ⟨#[]⟩, .string ⟨#[]⟩, .string ⟨#[]⟩, .slice none 0 0]) (by simp [results, Tryz.results24, go_sem]) rfl ⟨rfl, below2 _ _ _⟩
  | 3, _, _ =>
    have e : plainV 3 n xs = .str (idt xs) := rfl
    rw [e]
    clear UI
    generalize idt xs = ix at *
    go_enter Tryz.func24, Tryz.ntmps24
    go_wp2_with fail
    refine ID.mono ?_
    clear ID
    generalize hw2 : (w.alloc _).alloc _ = w2 at *
    rintro e w3 ⟨rfl, b3⟩
    have z2 : w2.heap.size = w.heap.size + 2 := by rw [← hw2]; simp
    have hc : ∀ o, w3.cell? ⟨w.heap.size + 1, o, none⟩ = w2.cell? ⟨w.heap.size + 1, o, none⟩ := fun o => b3.cell (p := ⟨w.heap.size + 1, o, none⟩) (by show w.heap.size + 1 < _; omega)
    have hf : ∀ o, w3.frozen? ⟨w.heap.size + 1, o, none⟩ = w2.frozen? ⟨w.heap.size + 1, o, none⟩ := fun o => b3.frozen (p := ⟨w.heap.size + 1, o, none⟩) (by show w.heap.size + 1 < _; omega)
    have b03 := b2.trans (b3.mono b2.size)
    rw [← hw2] at hc hf
    clear hw2 z2 b3
    go_wp2
    exact bodyPost_ret (v := .agg #[.int .i64 3, .bool false, .int .i64 0, .string (ba ix), .string ⟨#[]⟩, .string ⟨#[]⟩, .slice none 0 0]) (by simp [results, Tryz.results24, go_sem, hc]) rfl ⟨rfl, set7_below b03 (Nat.le_succ _) _ _ _ _ _ _ _⟩
  | 4, _, _ =>
    have e : plainV 4 n xs = .uid (tyL.getD (tyI n) []) (idt xs) := rfl
    rw [e]
    clear ID
    generalize idt xs = ix at *
    generalize tyL.getD (tyI n) [] = ty at *
    go_enter Tryz.func24, Tryz.ntmps24
    go_wp2_with fail
    refine UI.mono ?_
    clear UI
    generalize hw2 : (w.alloc _).alloc _ = w2 at *
    rintro e w3 ⟨rfl, b3⟩
    have z2 : w2.heap.size = w.heap.size + 2 := by rw [← hw2]; simp
    have hc : ∀ o, w3.cell? ⟨w.heap.size + 1, o, none⟩ = w2.cell? ⟨w.heap.size + 1, o, none⟩ := fun o => b3.cell (p := ⟨w.heap.size + 1, o, none⟩) (by show w.heap.size + 1 < _; omega)
    have hf : ∀ o, w3.frozen? ⟨w.heap.size + 1, o, none⟩ = w2.frozen? ⟨w.heap.size + 1, o, none⟩ := fun o => b3.frozen (p := ⟨w.heap.size + 1, o, none⟩) (by show w.heap.size + 1 < _; omega)
    have b03 := b2.trans (b3.mono b2.size)
    rw [← hw2] at hc hf
    clear hw2 z2 b3
    go_wp2
    exact bodyPost_ret (v := .agg #[.int .i64 4, .bool false, .int .i64 0, .string ⟨#[]⟩, .string (ba ty), .string (ba ix), .slice none 0 0]) (by simp [results, Tryz.results24, go_sem, hc]) rfl ⟨rfl, set7_below b03 (Nat.le_succ _) _ _ _ _ _ _ _⟩
end Go.Proofs.YtppincbcaijcbaaGreat
