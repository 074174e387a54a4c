/-
  chancellaw13.EvalFirst: the walk.
-/
import Derived.Test.YtonfanfggfjbdaaGreatEvS
namespace Go.Proofs.YtonfanfggfjbdaaGreat
open Go.RowKit Go.Sort

def bad13X : List Ex := [eTx 7 [97] [eUid [65] [120]], eOp 14 [eLong 9223372036854775807, eLong 1], eOp 11 [eLong 0]]
def bad13N : List Int := [18, 17, 16]
theorem bad13 : ∀ x (h : x < 3), evalE (noD zU zU zU) (bad13X[x]'h) = .inr (bad13N[x]'h) ∧ okEv (bad13X[x]'h) = true
  | 0, _ => ⟨by kernel_rfl, by kernel_rfl⟩
  | 1, _ => ⟨by kernel_rfl, by kernel_rfl⟩
  | 2, _ => ⟨by kernel_rfl, by kernel_rfl⟩
/-- What is wrong with the first kid is told, whatever stands about it. -/
theorem evalE_bad {D : EvD} {k : Int} {b : Bool} {n : Int} {s t i : List UInt8} {x y : Ex} {e : Int} (h : evalE D x = .inr e) : evalE D (.mk k b n s t i [x, y]) = .inr e := by
  rw [evalE_mk]
  unfold combC
  split
  · show bothC _ (evalE D x) (evalE D y) = _
    rw [h]
    rfl
  · split
    · rename_i h3
      exact absurd h3.2 (by simp)
    · have h2 : allR ([x, y].map (evalE D)) = .inr e := by
        show allR [evalE D x, evalE D y] = .inr e
        rw [h]
        rfl
      rw [h2]
theorem evalE_bad3 {D : EvD} {x y z : Ex} {e : Int} (h : evalE D x = .inr e) : evalE D (.mk 25 false 0 [] [] [] [x, y, z]) = .inr e := by
  rw [evalE_mk]
  show ifC (evalE D x) (evalE D y) (evalE D z) = _
  rw [h]
  rfl
theorem evalE_badA {D : EvD} {y : Ex} {e : Int} (h : evalE D y = .inr e) : evalE D (.mk 23 false 0 [] [] [] [eBool true, y]) = .inr e := by
  rw [evalE_mk]
  show bothC false (evalE D (eBool true)) (evalE D y) = _
  rw [h]
  rfl
set_option maxHeartbeats 8000000 in
set_option maxRecDepth 1000000 in
theorem efirst_walk (a c n : Int) (w : World) (hf : FitL w) : Calls Tryz.prog 8 #[.int .i64 a, .int .i64 c, .int .i64 n] w fun e w' => e = .returned (.bool true) ∧ Below w.heap.size w w' := by
  have C0 := known13_any w hf
  obtain ⟨x, hx⟩ : ∃ x : Nat, (x : Int) = a % 3 := ⟨(a % 3).toNat, by omega⟩
  obtain ⟨y, hy⟩ : ∃ y : Nat, (y : Int) = c % 3 := ⟨(c % 3).toNat, by omega⟩
  obtain ⟨m, hm⟩ : ∃ m : Nat, (m : Int) = n % 12 := ⟨(n % 12).toNat, by omega⟩
  have CA := fun w' => within13_any a 3 (by decide) (by decide) w'
  have CB := fun w' => within13_any c 3 (by decide) (by decide) w'
  have CW := fun w' => within13_any n 12 (by decide) (by decide) w'
  rw [← hx] at CA
  rw [← hy] at CB
  rw [← hm] at CW
  have hx4 : x < 3 := by omega
  have hy4 : y < 3 := by omega
  have hm12 : m < 12 := by omega
  clear hx hy hm
  have x0 : (0 : Int) ≤ (x : Int) := by omega
  have x1 : (x : Int) < 3 := by omega
  have y0 : (0 : Int) ≤ (y : Int) := by omega
  have y1 : (y : Int) < 3 := by omega
  have wr13 : IntKind.i64.wrap (13 + (m : Int)) = 13 + (m : Int) := by
    have h1 : (0 : Int) ≤ 13 + (m : Int) := by omega
    have h2 : 13 + (m : Int) < 9223372036854775808 := by omega
    simp [IntKind.wrap, IntKind.signed, IntKind.bits]
    omega
  go_enter Tryz.func8, Tryz.ntmps8
  go_wp2_with fail
  refine C0.mono ?_
  clear C0
  rintro e9 w2 ⟨rfl, b02⟩
  obtain ⟨bA, zA, kA0, kA1⟩ := ev2 w2 (.cells #[.int .i64 4, .bool false, .int .i64 0, .string ⟨#[]⟩, .string ⟨#[65]⟩, .string ⟨#[120]⟩, .slice none 0 0] 42) (.cells #[.int .i64 7, .bool false, .int .i64 0, .string ⟨#[97]⟩, .string ⟨#[]⟩, .string ⟨#[]⟩, .slice (some ⟨w2.heap.size, 0, none⟩) 1 1] 42)
  clear zA
  go_upto_region 4 with fail
  generalize (w2.alloc _).alloc _ = wA at *
  obtain ⟨bB, zB, kB0, kB1⟩ := ev2 wA (.cells #[.int .i64 2, .bool false, .int .i64 9223372036854775807, .string ⟨#[]⟩, .string ⟨#[]⟩, .string ⟨#[]⟩, .slice none 0 0, .int .i64 2, .bool false, .int .i64 1, .string ⟨#[]⟩, .string ⟨#[]⟩, .string ⟨#[]⟩, .slice none 0 0] 42) (.cells #[.int .i64 14, .bool false, .int .i64 0, .string ⟨#[]⟩, .string ⟨#[]⟩, .string ⟨#[]⟩, .slice (some ⟨wA.heap.size, 0, none⟩) 2 2] 42)
  clear zB
  go_upto_region 5 with fail
  generalize (wA.alloc _).alloc _ = wB at *
  obtain ⟨bC, zC, kC0, kC1⟩ := ev2 wB (.cells #[.int .i64 2, .bool false, .int .i64 0, .string ⟨#[]⟩, .string ⟨#[]⟩, .string ⟨#[]⟩, .slice none 0 0] 42) (.cells #[.int .i64 11, .bool false, .int .i64 0, .string ⟨#[]⟩, .string ⟨#[]⟩, .string ⟨#[]⟩, .slice (some ⟨wB.heap.size, 0, none⟩) 1 1] 42)
  clear zC
  go_upto_region 6 with fail
  generalize (wB.alloc _).alloc _ = wC at *
  have bBC := bB.trans (bC.mono bB.size)
  have kA0 := kept_of_below bBC kA0
  have kA1 := kept_of_below bBC kA1
  have kB0 := kept_of_below bC kB0
  have kB1 := kept_of_below bC kB1
  have ca0 : wC.cell? ⟨w2.heap.size + 1, 0, none⟩ = some (.int .i64 7) := by rw [Lib.cell_of_heap kA1]; rfl
  have ca1 : wC.cell? ⟨w2.heap.size + 1, 1, none⟩ = some (.bool false) := by rw [Lib.cell_of_heap kA1]; rfl
  have ca2 : wC.cell? ⟨w2.heap.size + 1, 2, none⟩ = some (.int .i64 0) := by rw [Lib.cell_of_heap kA1]; rfl
  have ca3 : wC.cell? ⟨w2.heap.size + 1, 3, none⟩ = some (.string ⟨#[97]⟩) := by rw [Lib.cell_of_heap kA1]; rfl
  have ca4 : wC.cell? ⟨w2.heap.size + 1, 4, none⟩ = some (.string ⟨#[]⟩) := by rw [Lib.cell_of_heap kA1]; rfl
  have ca5 : wC.cell? ⟨w2.heap.size + 1, 5, none⟩ = some (.string ⟨#[]⟩) := by rw [Lib.cell_of_heap kA1]; rfl
  have ca6 : wC.cell? ⟨w2.heap.size + 1, 6, none⟩ = some (.slice (some ⟨w2.heap.size, 0, none⟩) 1 1) := by rw [Lib.cell_of_heap kA1]; rfl
  have cb0 : wC.cell? ⟨wA.heap.size + 1, 0, none⟩ = some (.int .i64 14) := by rw [Lib.cell_of_heap kB1]; rfl
  have cb1 : wC.cell? ⟨wA.heap.size + 1, 1, none⟩ = some (.bool false) := by rw [Lib.cell_of_heap kB1]; rfl
  have cb2 : wC.cell? ⟨wA.heap.size + 1, 2, none⟩ = some (.int .i64 0) := by rw [Lib.cell_of_heap kB1]; rfl
  have cb3 : wC.cell? ⟨wA.heap.size + 1, 3, none⟩ = some (.string ⟨#[]⟩) := by rw [Lib.cell_of_heap kB1]; rfl
  have cb4 : wC.cell? ⟨wA.heap.size + 1, 4, none⟩ = some (.string ⟨#[]⟩) := by rw [Lib.cell_of_heap kB1]; rfl
  have cb5 : wC.cell? ⟨wA.heap.size + 1, 5, none⟩ = some (.string ⟨#[]⟩) := by rw [Lib.cell_of_heap kB1]; rfl
  have cb6 : wC.cell? ⟨wA.heap.size + 1, 6, none⟩ = some (.slice (some ⟨wA.heap.size, 0, none⟩) 2 2) := by rw [Lib.cell_of_heap kB1]; rfl
  have cc0 : wC.cell? ⟨wB.heap.size + 1, 0, none⟩ = some (.int .i64 11) := by rw [Lib.cell_of_heap kC1]; rfl
  have cc1 : wC.cell? ⟨wB.heap.size + 1, 1, none⟩ = some (.bool false) := by rw [Lib.cell_of_heap kC1]; rfl
  have cc2 : wC.cell? ⟨wB.heap.size + 1, 2, none⟩ = some (.int .i64 0) := by rw [Lib.cell_of_heap kC1]; rfl
  have cc3 : wC.cell? ⟨wB.heap.size + 1, 3, none⟩ = some (.string ⟨#[]⟩) := by rw [Lib.cell_of_heap kC1]; rfl
  have cc4 : wC.cell? ⟨wB.heap.size + 1, 4, none⟩ = some (.string ⟨#[]⟩) := by rw [Lib.cell_of_heap kC1]; rfl
  have cc5 : wC.cell? ⟨wB.heap.size + 1, 5, none⟩ = some (.string ⟨#[]⟩) := by rw [Lib.cell_of_heap kC1]; rfl
  have cc6 : wC.cell? ⟨wB.heap.size + 1, 6, none⟩ = some (.slice (some ⟨wB.heap.size, 0, none⟩) 1 1) := by rw [Lib.cell_of_heap kC1]; rfl
  obtain ⟨bD, zD, kD0, kD1⟩ := ev2 wC (.cells #[.int .i64 7, .bool false, .int .i64 0, .string ⟨#[97]⟩, .string ⟨#[]⟩, .string ⟨#[]⟩, .slice (some ⟨w2.heap.size, 0, none⟩) 1 1, .int .i64 14, .bool false, .int .i64 0, .string ⟨#[]⟩, .string ⟨#[]⟩, .string ⟨#[]⟩, .slice (some ⟨wA.heap.size, 0, none⟩) 2 2, .int .i64 11, .bool false, .int .i64 0, .string ⟨#[]⟩, .string ⟨#[]⟩, .string ⟨#[]⟩, .slice (some ⟨wB.heap.size, 0, none⟩) 1 1] 42) (.cells #[.int .i64 18, .int .i64 17, .int .i64 16] 47)
  clear zD
  have kA0 := kept_of_below bD kA0
  have kB0 := kept_of_below bD kB0
  have kC0 := kept_of_below bD kC0
  have b05 := b02.trans ((bA.trans ((bBC.trans (bD.mono bBC.size)).mono bA.size)).mono b02.size)
  go_wp2_with fail
  refine (CA _).mono ?_
  rintro e9 w9 ⟨rfl, hw9⟩
  subst hw9
  go_wp2_with fail
  refine (CB _).mono ?_
  rintro e9 w9 ⟨rfl, hw9⟩
  subst hw9
  go_upto_region 9 with fail
  generalize (wC.alloc _).alloc _ = w5 at *
  clear ca0 cb0 cc0 ca1 cb1 cc1 ca2 cb2 cc2 ca3 cb3 cc3 ca4 cb4 cc4 ca5 cb5 cc5 ca6 cb6 cc6 kA1 kB1 kC1
  clear CA CB
  have hE := kD1
  have hBb : wC.heap.size < w5.heap.size := (Array.getElem?_eq_some_iff.1 kD0).1
  have hfD := hf.below b05
  have hall : AllX w5 [(⟨7, false, 0, ⟨#[97]⟩, ⟨#[]⟩, ⟨#[]⟩, some ⟨w2.heap.size, 0, none⟩, 1, 1⟩ : R7), (⟨14, false, 0, ⟨#[]⟩, ⟨#[]⟩, ⟨#[]⟩, some ⟨wA.heap.size, 0, none⟩, 2, 2⟩ : R7), (⟨11, false, 0, ⟨#[]⟩, ⟨#[]⟩, ⟨#[]⟩, some ⟨wB.heap.size, 0, none⟩, 1, 1⟩ : R7)] bad13X :=
    .cons (isE_node (s := [97]) (t := []) (i := []) rfl (isEs_block [(⟨4, false, 0, ⟨#[]⟩, ⟨#[65]⟩, ⟨#[120]⟩, none, 0, 0⟩ : R7)] [eUid [65] [120]] kA0 rfl (.cons (isE_leaf _ 4 false 0 [] [65] [120] 0 none) .nil))) (.cons (isE_node (s := []) (t := []) (i := []) rfl (isEs_block [(⟨2, false, 9223372036854775807, ⟨#[]⟩, ⟨#[]⟩, ⟨#[]⟩, none, 0, 0⟩ : R7), (⟨2, false, 1, ⟨#[]⟩, ⟨#[]⟩, ⟨#[]⟩, none, 0, 0⟩ : R7)] [eLong 9223372036854775807, eLong 1] kB0 rfl (.cons (isE_leaf _ 2 false 9223372036854775807 [] [] [] 0 none) (.cons (isE_leaf _ 2 false 1 [] [] [] 0 none) .nil)))) (.cons (isE_node (s := []) (t := []) (i := []) rfl (isEs_block [(⟨2, false, 0, ⟨#[]⟩, ⟨#[]⟩, ⟨#[]⟩, none, 0, 0⟩ : R7)] [eLong 0] kC0 rfl (.cons (isE_leaf _ 2 false 0 [] [] [] 0 none) .nil))) .nil))
  have hat := at7_block _ kD0 (show _ = cellsE [(⟨7, false, 0, ⟨#[97]⟩, ⟨#[]⟩, ⟨#[]⟩, some ⟨w2.heap.size, 0, none⟩, 1, 1⟩ : R7), (⟨14, false, 0, ⟨#[]⟩, ⟨#[]⟩, ⟨#[]⟩, some ⟨wA.heap.size, 0, none⟩, 2, 2⟩ : R7), (⟨11, false, 0, ⟨#[]⟩, ⟨#[]⟩, ⟨#[]⟩, some ⟨wB.heap.size, 0, none⟩, 1, 1⟩ : R7)] from rfl)
  generalize hrs : [(⟨7, false, 0, ⟨#[97]⟩, ⟨#[]⟩, ⟨#[]⟩, some ⟨w2.heap.size, 0, none⟩, 1, 1⟩ : R7), (⟨14, false, 0, ⟨#[]⟩, ⟨#[]⟩, ⟨#[]⟩, some ⟨wA.heap.size, 0, none⟩, 2, 2⟩ : R7), (⟨11, false, 0, ⟨#[]⟩, ⟨#[]⟩, ⟨#[]⟩, some ⟨wB.heap.size, 0, none⟩, 1, 1⟩ : R7)] = rs at *
  have hl : rs.length = 3 := by rw [← hrs]; rfl
  clear hrs
  have hxE := hall.get x (by omega) hx4
  have hyE := hall.get y (by omega) hy4
  obtain ⟨ax0, ax1, ax2, ax3, ax4, ax5, ax6⟩ := hat x (by omega)
  obtain ⟨ay0, ay1, ay2, ay3, ay4, ay5, ay6⟩ := hat y (by omega)
  have hbx := bad13 x hx4
  have hby := bad13 y hy4
  have HEX := hide (show (#[Value.int .i64 18, .int .i64 17, .int .i64 16] : Array Value)[x]? = some (.int .i64 (bad13N[x]'hx4)) from by
    match x, hx4 with
    | 0, _ | 1, _ | 2, _ => rfl)
  have HEY := hide (show (#[Value.int .i64 18, .int .i64 17, .int .i64 16] : Array Value)[y]? = some (.int .i64 (bad13N[y]'hy4)) from by
    match y, hy4 with
    | 0, _ | 1, _ | 2, _ => rfl)
  clear hat hall
  generalize rs[x]'(by omega) = rx at *
  generalize rs[y]'(by omega) = ry at *
  generalize bad13X[x]'hx4 = tx at *
  generalize bad13X[y]'hy4 = ty at *
  generalize bad13N[x]'hx4 = ex at *
  generalize bad13N[y]'hy4 = ey at *
  have CO1 := fun (w' : World) (b : Nat) (hb : Below w5.heap.size w5 w') (ho : w'.heap[b]? = some (.cells #[.int .i64 rx.k, .bool rx.b, .int .i64 rx.n, .string rx.s, .string rx.t, .string rx.i, .slice rx.lo rx.ll rx.lc, .int .i64 ry.k, .bool ry.b, .int .i64 ry.n, .string ry.s, .string ry.t, .string ry.i, .slice ry.lo ry.ll ry.lc] 42 (0, 0))) => expr13_err (noD zU zU zU) none [] 0 0 (.mk (13 + (m : Int)) false 0 [] [] [] [tx, ty]) ⟨13 + (m : Int), false, 0, ⟨#[]⟩, ⟨#[]⟩, ⟨#[]⟩, some ⟨b, 0, none⟩, 2, 2⟩ w' rfl (ew_nil _ (hfD.below hb) _ _ _) (isE_node (s := []) (t := []) (i := []) rfl (isEs_block [rx, ry] [tx, ty] ho rfl (.cons (liftX hxE hb) (.cons (liftX hyE hb) .nil)))) (by rw [okEv, okEvL, okEvL, okEvL, hbx.2, hby.2]; rfl) (evalE_bad hbx.1)
  have CO2 := fun (w' : World) (b : Nat) (hb : Below w5.heap.size w5 w') (ho : w'.heap[b]? = some (.cells #[.int .i64 rx.k, .bool rx.b, .int .i64 rx.n, .string rx.s, .string rx.t, .string rx.i, .slice rx.lo rx.ll rx.lc, .int .i64 ry.k, .bool ry.b, .int .i64 ry.n, .string ry.s, .string ry.t, .string ry.i, .slice ry.lo ry.ll ry.lc, .int .i64 ry.k, .bool ry.b, .int .i64 ry.n, .string ry.s, .string ry.t, .string ry.i, .slice ry.lo ry.ll ry.lc] 42 (0, 0))) => expr13_err (noD zU zU zU) none [] 0 0 (.mk 25 false 0 [] [] [] [tx, ty, ty]) ⟨25, false, 0, ⟨#[]⟩, ⟨#[]⟩, ⟨#[]⟩, some ⟨b, 0, none⟩, 3, 3⟩ w' rfl (ew_nil _ (hfD.below hb) _ _ _) (isE_node (s := []) (t := []) (i := []) rfl (isEs_block [rx, ry, ry] [tx, ty, ty] ho rfl (.cons (liftX hxE hb) (.cons (liftX hyE hb) (.cons (liftX hyE hb) .nil))))) (by rw [okEv, okEvL, okEvL, okEvL, okEvL, hbx.2, hby.2]; rfl) (evalE_bad3 hbx.1)
  have CO3 := fun (w' : World) (b : Nat) (hb : Below w5.heap.size w5 w') (ho : w'.heap[b]? = some (.cells #[.int .i64 1, .bool true, .int .i64 0, .string ⟨#[]⟩, .string ⟨#[]⟩, .string ⟨#[]⟩, .slice none 0 0, .int .i64 ry.k, .bool ry.b, .int .i64 ry.n, .string ry.s, .string ry.t, .string ry.i, .slice ry.lo ry.ll ry.lc] 42 (0, 0))) => expr13_err (noD zU zU zU) none [] 0 0 (.mk 23 false 0 [] [] [] [eBool true, ty]) ⟨23, false, 0, ⟨#[]⟩, ⟨#[]⟩, ⟨#[]⟩, some ⟨b, 0, none⟩, 2, 2⟩ w' rfl (ew_nil _ (hfD.below hb) _ _ _) (isE_node (s := []) (t := []) (i := []) rfl (isEs_block [(⟨1, true, 0, ⟨#[]⟩, ⟨#[]⟩, ⟨#[]⟩, none, 0, 0⟩ : R7), ry] [eBool true, ty] ho rfl (.cons (isE_leaf _ 1 true 0 [] [] [] 0 none) (.cons (liftX hyE hb) .nil)))) (by rw [okEv, okEvL, okEvL, okEvL, hby.2]; rfl) (evalE_badA hby.1)
  simp only [noD, zU] at CO1 CO2 CO3
  clear hxE hyE hbx hby hl kD0 kD1 kA0 kB0 kC0
  refine wp_specsD (SpS [.eq (.agg #[.string ⟨#[]⟩, .string ⟨#[]⟩, .string ⟨#[]⟩, .string ⟨#[]⟩, .string ⟨#[]⟩, .string ⟨#[]⟩]), .eq (.int .i64 n), .eq (.int .i64 (m : Nat)), .eq (.int .i64 (13 + (m : Int))), .eq (.slice (some ⟨wC.heap.size, 0, none⟩) 3 3), .eq (.int .i64 (x : Nat)), .eq (.pointer (some ⟨wC.heap.size, x * 7, none⟩)), .eq (.agg #[.int .i64 rx.k, .bool rx.b, .int .i64 rx.n, .string rx.s, .string rx.t, .string rx.i, .slice rx.lo rx.ll rx.lc]), .eq (.slice (some ⟨wC.heap.size, 0, none⟩) 3 3), .eq (.int .i64 (y : Nat)), .eq (.pointer (some ⟨wC.heap.size, y * 7, none⟩)), .eq (.agg #[.int .i64 ry.k, .bool ry.b, .int .i64 ry.n, .string ry.s, .string ry.t, .string ry.i, .slice ry.lo ry.ll ry.lc]), .blk (0) (fun b => .slice (some ⟨b, 0, none⟩) 2 2) (.cells #[.int .i64 rx.k, .bool rx.b, .int .i64 rx.n, .string rx.s, .string rx.t, .string rx.i, .slice rx.lo rx.ll rx.lc, .int .i64 ry.k, .bool ry.b, .int .i64 ry.n, .string ry.s, .string ry.t, .string ry.i, .slice ry.lo ry.ll ry.lc] 42 (0, 0)), .blk (0) (fun b => .agg #[.int .i64 (13 + (m : Int)), .bool false, .int .i64 0, .string ⟨#[]⟩, .string ⟨#[]⟩, .string ⟨#[]⟩, .slice (some ⟨b, 0, none⟩) 2 2]) (.cells #[.int .i64 rx.k, .bool rx.b, .int .i64 rx.n, .string rx.s, .string rx.t, .string rx.i, .slice rx.lo rx.ll rx.lc, .int .i64 ry.k, .bool ry.b, .int .i64 ry.n, .string ry.s, .string ry.t, .string ry.i, .slice ry.lo ry.ll ry.lc] 42 (0, 0)), .eq (.tuple #[.agg #[.int .i64 0, .bool false, .int .i64 0, .string ⟨#[]⟩, .string ⟨#[]⟩, .string ⟨#[]⟩, .slice none 0 0], .int .i64 ex]), .eq (.tuple #[.agg #[.int .i64 0, .bool false, .int .i64 0, .string ⟨#[]⟩, .string ⟨#[]⟩, .string ⟨#[]⟩, .slice none 0 0], .int .i64 ex]), .eq (.agg #[.int .i64 0, .bool false, .int .i64 0, .string ⟨#[]⟩, .string ⟨#[]⟩, .string ⟨#[]⟩, .slice none 0 0]), .eq (.int .i64 ex), .any, .any, .eq (.int .i64 ex)]) (GM 18 19 14 w5 #[.int .i64 0, .bool false, .int .i64 0, .string ⟨#[]⟩, .string ⟨#[]⟩, .string ⟨#[]⟩, .slice none 0 0] 46 (fun _ _ => True)) (by kernel_rfl) (by kernel_rfl) (by kernel_rfl) (GM.start _ w5) ?_ ?_ ?_
  · intro q o d ho hd L a' w' hL hw hRR hdep hslot hsz K hK
    have hqN : q < 21 := dstOf_lt hd
    have hR := hRR.below
    have ax0' := (hR.cell (p := ⟨wC.heap.size, x * 7, none⟩) hBb).trans ax0
    have ay0' := (hR.cell (p := ⟨wC.heap.size, y * 7, none⟩) hBb).trans ay0
    have ax1' := (hR.cell (p := ⟨wC.heap.size, x * 7 + 1, none⟩) hBb).trans ax1
    have ay1' := (hR.cell (p := ⟨wC.heap.size, y * 7 + 1, none⟩) hBb).trans ay1
    have ax2' := (hR.cell (p := ⟨wC.heap.size, x * 7 + 2, none⟩) hBb).trans ax2
    have ay2' := (hR.cell (p := ⟨wC.heap.size, y * 7 + 2, none⟩) hBb).trans ay2
    have ax3' := (hR.cell (p := ⟨wC.heap.size, x * 7 + 3, none⟩) hBb).trans ax3
    have ay3' := (hR.cell (p := ⟨wC.heap.size, y * 7 + 3, none⟩) hBb).trans ay3
    have ax4' := (hR.cell (p := ⟨wC.heap.size, x * 7 + 4, none⟩) hBb).trans ax4
    have ay4' := (hR.cell (p := ⟨wC.heap.size, y * 7 + 4, none⟩) hBb).trans ay4
    have ax5' := (hR.cell (p := ⟨wC.heap.size, x * 7 + 5, none⟩) hBb).trans ax5
    have ay5' := (hR.cell (p := ⟨wC.heap.size, y * 7 + 5, none⟩) hBb).trans ay5
    have ax6' := (hR.cell (p := ⟨wC.heap.size, x * 7 + 6, none⟩) hBb).trans ax6
    have ay6' := (hR.cell (p := ⟨wC.heap.size, y * 7 + 6, none⟩) hBb).trans ay6
    have hs2 : a'.tmps.getD 2 undef = .int .i64 n := hslot 2 (fun q h => by have hl := dstOf_lt h; match q, hl with | 0, _ => cases h | 1, _ => cases h | 2, _ => cases h | 3, _ => cases h | 4, _ => cases h | 5, _ => cases h | 6, _ => cases h | 7, _ => cases h | 8, _ => cases h | 9, _ => cases h | 10, _ => cases h | 11, _ => cases h | 12, _ => cases h | 13, _ => cases h | 14, _ => cases h | 15, _ => cases h | 16, _ => cases h | 17, _ => cases h | 18, _ => cases h | 19, _ => cases h | 20, _ => cases h)
    have hs10 : a'.tmps.getD 10 undef = .slice (some ⟨wC.heap.size, 0, none⟩) 3 3 := hslot 10 (fun q h => by have hl := dstOf_lt h; match q, hl with | 0, _ => cases h | 1, _ => cases h | 2, _ => cases h | 3, _ => cases h | 4, _ => cases h | 5, _ => cases h | 6, _ => cases h | 7, _ => cases h | 8, _ => cases h | 9, _ => cases h | 10, _ => cases h | 11, _ => cases h | 12, _ => cases h | 13, _ => cases h | 14, _ => cases h | 15, _ => cases h | 16, _ => cases h | 17, _ => cases h | 18, _ => cases h | 19, _ => cases h | 20, _ => cases h)
    have hs12 : a'.tmps.getD 12 undef = .int .i64 (x : Nat) := hslot 12 (fun q h => by have hl := dstOf_lt h; match q, hl with | 0, _ => cases h | 1, _ => cases h | 2, _ => cases h | 3, _ => cases h | 4, _ => cases h | 5, _ => cases h | 6, _ => cases h | 7, _ => cases h | 8, _ => cases h | 9, _ => cases h | 10, _ => cases h | 11, _ => cases h | 12, _ => cases h | 13, _ => cases h | 14, _ => cases h | 15, _ => cases h | 16, _ => cases h | 17, _ => cases h | 18, _ => cases h | 19, _ => cases h | 20, _ => cases h)
    have hs13 : a'.tmps.getD 13 undef = .int .i64 (y : Nat) := hslot 13 (fun q h => by have hl := dstOf_lt h; match q, hl with | 0, _ => cases h | 1, _ => cases h | 2, _ => cases h | 3, _ => cases h | 4, _ => cases h | 5, _ => cases h | 6, _ => cases h | 7, _ => cases h | 8, _ => cases h | 9, _ => cases h | 10, _ => cases h | 11, _ => cases h | 12, _ => cases h | 13, _ => cases h | 14, _ => cases h | 15, _ => cases h | 16, _ => cases h | 17, _ => cases h | 18, _ => cases h | 19, _ => cases h | 20, _ => cases h)
    have hc : q = 0 ∨ q = 1 ∨ q = 2 ∨ q = 3 ∨ q = 4 ∨ q = 5 ∨ q = 6 ∨ q = 7 ∨ q = 8 ∨ q = 9 ∨ q = 10 ∨ q = 11 ∨ q = 12 ∨ q = 13 ∨ q = 14 ∨ q = 15 ∨ q = 16 ∨ q = 17 ∨ q = 18 ∨ q = 19 ∨ q = 20 := by omega
    rcases hc with rfl | rfl | rfl | rfl | rfl | rfl | rfl | rfl | rfl | rfl | rfl | rfl | rfl | rfl | rfl | rfl | rfl | rfl | rfl | rfl | rfl
    · cases ho
      cases hd
      clear ax0' ax1' ax2' ax3' ax4' ax5' ax6' ay0' ay1' ay2' ay3' ay4' ay5' ay6'
      unfold Oper.wp
      go_simp
      exact hK _ _ rfl (GM.step (fun _ _ _ _ _ => trivial) hRR (Below.refl _ _) 0 43 _ (by decide) (by decide) (by decide)) (fun _ _ h => h)
    · cases ho
      cases hd
      have e0 := hs2
      clear ax0' ax1' ax2' ax3' ax4' ax5' ax6' ay0' ay1' ay2' ay3' ay4' ay5' ay6'
      unfold Oper.wp
      go_simp
      exact hK _ _ rfl (GM.step (fun _ _ _ _ _ => trivial) hRR (Below.refl _ _) 1 44 _ (by decide) (by decide) (by decide)) (fun _ _ h => h)
    · cases ho
      cases hd
      have e0 : a'.tmps.getD 44 undef = .int .i64 n := hdep 1 44 rfl (by kernel_rfl)
      have e0' : a'.tmps[44]?.getD undef = .int .i64 n := by simpa using e0
      clear ax0' ax1' ax2' ax3' ax4' ax5' ax6' ay0' ay1' ay2' ay3' ay4' ay5' ay6'
      unfold Oper.wp
      go_simp
      refine (CW w').mono ?_
      rintro e w9 ⟨rfl, hw9⟩
      subst hw9
      exact hK _ _ rfl (GM.step (fun _ _ _ _ _ => trivial) hRR (Below.refl _ _) 2 45 _ (by decide) (by decide) (by decide)) (fun _ _ h => h)
    · cases ho
      cases hd
      have e0 : a'.tmps.getD 45 undef = .int .i64 (m : Nat) := hdep 2 45 rfl (by kernel_rfl)
      have e0' : a'.tmps[45]?.getD undef = .int .i64 (m : Nat) := by simpa using e0
      clear ax0' ax1' ax2' ax3' ax4' ax5' ax6' ay0' ay1' ay2' ay3' ay4' ay5' ay6'
      unfold Oper.wp
      go_simp
      exact hK _ _ rfl (GM.step (fun _ _ _ _ _ => trivial) hRR (Below.refl _ _) 3 46 _ (by decide) (by decide) (by decide)) (fun _ _ h => h)
    · cases ho
      cases hd
      have e0 := hs10
      clear ax0' ax1' ax2' ax3' ax4' ax5' ax6' ay0' ay1' ay2' ay3' ay4' ay5' ay6'
      unfold Oper.wp
      go_simp
      exact hK _ _ rfl (GM.step (fun _ _ _ _ _ => trivial) hRR (Below.refl _ _) 4 47 _ (by decide) (by decide) (by decide)) (fun _ _ h => h)
    · cases ho
      cases hd
      have e0 := hs12
      clear ax0' ax1' ax2' ax3' ax4' ax5' ax6' ay0' ay1' ay2' ay3' ay4' ay5' ay6'
      unfold Oper.wp
      go_simp
      exact hK _ _ rfl (GM.step (fun _ _ _ _ _ => trivial) hRR (Below.refl _ _) 5 48 _ (by decide) (by decide) (by decide)) (fun _ _ h => h)
    · cases ho
      cases hd
      have e0 : a'.tmps.getD 47 undef = .slice (some ⟨wC.heap.size, 0, none⟩) 3 3 := hdep 4 47 rfl (by kernel_rfl)
      have e0' : a'.tmps[47]?.getD undef = .slice (some ⟨wC.heap.size, 0, none⟩) 3 3 := by simpa using e0
      have e1 : a'.tmps.getD 48 undef = .int .i64 (x : Nat) := hdep 5 48 rfl (by kernel_rfl)
      have e1' : a'.tmps[48]?.getD undef = .int .i64 (x : Nat) := by simpa using e1
      clear ax0' ax1' ax2' ax3' ax4' ax5' ax6' ay0' ay1' ay2' ay3' ay4' ay5' ay6'
      unfold Oper.wp
      go_simp
      exact hK _ _ rfl (GM.step (fun _ _ _ _ _ => trivial) hRR (Below.refl _ _) 6 49 _ (by decide) (by decide) (by decide)) (fun _ _ h => h)
    · cases ho
      cases hd
      have e0 : a'.tmps.getD 49 undef = .pointer (some ⟨wC.heap.size, x * 7, none⟩) := hdep 6 49 rfl (by kernel_rfl)
      have e0' : a'.tmps[49]?.getD undef = .pointer (some ⟨wC.heap.size, x * 7, none⟩) := by simpa using e0
      clear ay0' ay1' ay2' ay3' ay4' ay5' ay6'
      unfold Oper.wp
      go_simp
      exact hK _ _ rfl (GM.step (fun _ _ _ _ _ => trivial) hRR (Below.refl _ _) 7 50 _ (by decide) (by decide) (by decide)) (fun _ _ h => h)
    · cases ho
      cases hd
      have e0 := hs10
      clear ax0' ax1' ax2' ax3' ax4' ax5' ax6' ay0' ay1' ay2' ay3' ay4' ay5' ay6'
      unfold Oper.wp
      go_simp
      exact hK _ _ rfl (GM.step (fun _ _ _ _ _ => trivial) hRR (Below.refl _ _) 8 51 _ (by decide) (by decide) (by decide)) (fun _ _ h => h)
    · cases ho
      cases hd
      have e0 := hs13
      clear ax0' ax1' ax2' ax3' ax4' ax5' ax6' ay0' ay1' ay2' ay3' ay4' ay5' ay6'
      unfold Oper.wp
      go_simp
      exact hK _ _ rfl (GM.step (fun _ _ _ _ _ => trivial) hRR (Below.refl _ _) 9 52 _ (by decide) (by decide) (by decide)) (fun _ _ h => h)
    · cases ho
      cases hd
      have e0 : a'.tmps.getD 51 undef = .slice (some ⟨wC.heap.size, 0, none⟩) 3 3 := hdep 8 51 rfl (by kernel_rfl)
      have e0' : a'.tmps[51]?.getD undef = .slice (some ⟨wC.heap.size, 0, none⟩) 3 3 := by simpa using e0
      have e1 : a'.tmps.getD 52 undef = .int .i64 (y : Nat) := hdep 9 52 rfl (by kernel_rfl)
      have e1' : a'.tmps[52]?.getD undef = .int .i64 (y : Nat) := by simpa using e1
      clear ax0' ax1' ax2' ax3' ax4' ax5' ax6' ay0' ay1' ay2' ay3' ay4' ay5' ay6'
      unfold Oper.wp
      go_simp
      exact hK _ _ rfl (GM.step (fun _ _ _ _ _ => trivial) hRR (Below.refl _ _) 10 53 _ (by decide) (by decide) (by decide)) (fun _ _ h => h)
    · cases ho
      cases hd
      have e0 : a'.tmps.getD 53 undef = .pointer (some ⟨wC.heap.size, y * 7, none⟩) := hdep 10 53 rfl (by kernel_rfl)
      have e0' : a'.tmps[53]?.getD undef = .pointer (some ⟨wC.heap.size, y * 7, none⟩) := by simpa using e0
      clear ax0' ax1' ax2' ax3' ax4' ax5' ax6'
      unfold Oper.wp
      go_simp
      exact hK _ _ rfl (GM.step (fun _ _ _ _ _ => trivial) hRR (Below.refl _ _) 11 54 _ (by decide) (by decide) (by decide)) (fun _ _ h => h)
    · cases ho
      cases hd
      have e0 : a'.tmps.getD 50 undef = .agg #[.int .i64 rx.k, .bool rx.b, .int .i64 rx.n, .string rx.s, .string rx.t, .string rx.i, .slice rx.lo rx.ll rx.lc] := hdep 7 50 rfl (by kernel_rfl)
      have e0' : a'.tmps[50]?.getD undef = .agg #[.int .i64 rx.k, .bool rx.b, .int .i64 rx.n, .string rx.s, .string rx.t, .string rx.i, .slice rx.lo rx.ll rx.lc] := by simpa using e0
      have e1 : a'.tmps.getD 54 undef = .agg #[.int .i64 ry.k, .bool ry.b, .int .i64 ry.n, .string ry.s, .string ry.t, .string ry.i, .slice ry.lo ry.ll ry.lc] := hdep 11 54 rfl (by kernel_rfl)
      have e1' : a'.tmps[54]?.getD undef = .agg #[.int .i64 ry.k, .bool ry.b, .int .i64 ry.n, .string ry.s, .string ry.t, .string ry.i, .slice ry.lo ry.ll ry.lc] := by simpa using e1
      clear ax0' ax1' ax2' ax3' ax4' ax5' ax6' ay0' ay1' ay2' ay3' ay4' ay5' ay6'
      have hb0 : 50 < a'.tmps.size := by rw [hsz]; first | decide | simp
      have e0'' : a'.tmps[50] = .agg #[.int .i64 rx.k, .bool rx.b, .int .i64 rx.n, .string rx.s, .string rx.t, .string rx.i, .slice rx.lo rx.ll rx.lc] := by simpa [hb0] using e0
      have hb1 : 54 < a'.tmps.size := by rw [hsz]; first | decide | simp
      have e1'' : a'.tmps[54] = .agg #[.int .i64 ry.k, .bool ry.b, .int .i64 ry.n, .string ry.s, .string ry.t, .string ry.i, .slice ry.lo ry.ll ry.lc] := by simpa [hb1] using e1
      unfold Oper.wp
      go_simp
      exact hK _ _ ⟨w'.heap.size, Nat.zero_le _, rfl, alloc_heap _ _⟩ (GM.step (fun _ _ _ _ _ => trivial) hRR (ev1 _ _) 12 55 _ (by decide) (by decide) (by decide)) (SpS.up (ev1 _ _))
    · cases ho
      cases hd
      have e0 : a'.tmps.getD 46 undef = .int .i64 (13 + (m : Int)) := hdep 3 46 rfl (by kernel_rfl)
      have e0' : a'.tmps[46]?.getD undef = .int .i64 (13 + (m : Int)) := by simpa using e0
      obtain ⟨b1, hB1, e1, ho1⟩ : (.blk (0) (fun b => .slice (some ⟨b, 0, none⟩) 2 2) (.cells #[.int .i64 rx.k, .bool rx.b, .int .i64 rx.n, .string rx.s, .string rx.t, .string rx.i, .slice rx.lo rx.ll rx.lc, .int .i64 ry.k, .bool ry.b, .int .i64 ry.n, .string ry.s, .string ry.t, .string ry.i, .slice ry.lo ry.ll ry.lc] 42 (0, 0)) : Sv).sp (a'.tmps.getD 55 undef) w' := hdep 12 55 rfl (by kernel_rfl)
      have e1' : a'.tmps[55]?.getD undef = .slice (some ⟨b1, 0, none⟩) 2 2 := by simpa using e1
      have Ho1 := hide ho1
      clear ho1 ax0' ax1' ax2' ax3' ax4' ax5' ax6' ay0' ay1' ay2' ay3' ay4' ay5' ay6'
      have hb0 : 46 < a'.tmps.size := by rw [hsz]; first | decide | simp
      have e0'' : a'.tmps[46] = .int .i64 (13 + (m : Int)) := by simpa [hb0] using e0
      have hb1 : 55 < a'.tmps.size := by rw [hsz]; first | decide | simp
      have e1'' : a'.tmps[55] = .slice (some ⟨b1, 0, none⟩) 2 2 := by simpa [hb1] using e1
      unfold Oper.wp
      go_simp
      exact hK _ _ ⟨b1, hB1, rfl, unhide Ho1⟩ (GM.step (fun _ _ _ _ _ => trivial) hRR (Below.refl _ _) 13 56 _ (by decide) (by decide) (by decide)) (fun _ _ h => h)
    · cases ho
      cases hd
      have e0 : a'.tmps.getD 43 undef = .agg #[.string ⟨#[]⟩, .string ⟨#[]⟩, .string ⟨#[]⟩, .string ⟨#[]⟩, .string ⟨#[]⟩, .string ⟨#[]⟩] := hdep 0 43 rfl (by kernel_rfl)
      have e0' : a'.tmps[43]?.getD undef = .agg #[.string ⟨#[]⟩, .string ⟨#[]⟩, .string ⟨#[]⟩, .string ⟨#[]⟩, .string ⟨#[]⟩, .string ⟨#[]⟩] := by simpa using e0
      obtain ⟨b1, hB1, e1, ho1⟩ : (.blk (0) (fun b => .agg #[.int .i64 (13 + (m : Int)), .bool false, .int .i64 0, .string ⟨#[]⟩, .string ⟨#[]⟩, .string ⟨#[]⟩, .slice (some ⟨b, 0, none⟩) 2 2]) (.cells #[.int .i64 rx.k, .bool rx.b, .int .i64 rx.n, .string rx.s, .string rx.t, .string rx.i, .slice rx.lo rx.ll rx.lc, .int .i64 ry.k, .bool ry.b, .int .i64 ry.n, .string ry.s, .string ry.t, .string ry.i, .slice ry.lo ry.ll ry.lc] 42 (0, 0)) : Sv).sp (a'.tmps.getD 56 undef) w' := hdep 13 56 rfl (by kernel_rfl)
      have e1' : a'.tmps[56]?.getD undef = .agg #[.int .i64 (13 + (m : Int)), .bool false, .int .i64 0, .string ⟨#[]⟩, .string ⟨#[]⟩, .string ⟨#[]⟩, .slice (some ⟨b1, 0, none⟩) 2 2] := by simpa using e1
      have Ho1 := hide ho1
      clear ho1 ax0' ax1' ax2' ax3' ax4' ax5' ax6' ay0' ay1' ay2' ay3' ay4' ay5' ay6'
      unfold Oper.wp
      go_simp
      refine (CO1 w' b1 hR (unhide Ho1)).mono ?_
      rintro e w9 ⟨rfl, b9⟩
      exact hK _ _ rfl (GM.step (fun _ _ _ _ _ => trivial) hRR b9 14 57 _ (by decide) (by decide) (by decide)) (SpS.up b9)
    · cases ho
      cases hd
      have e0 : a'.tmps.getD 57 undef = .tuple #[.agg #[.int .i64 0, .bool false, .int .i64 0, .string ⟨#[]⟩, .string ⟨#[]⟩, .string ⟨#[]⟩, .slice none 0 0], .int .i64 ex] := hdep 14 57 rfl (by kernel_rfl)
      have e0' : a'.tmps[57]?.getD undef = .tuple #[.agg #[.int .i64 0, .bool false, .int .i64 0, .string ⟨#[]⟩, .string ⟨#[]⟩, .string ⟨#[]⟩, .slice none 0 0], .int .i64 ex] := by simpa using e0
      clear ax0' ax1' ax2' ax3' ax4' ax5' ax6' ay0' ay1' ay2' ay3' ay4' ay5' ay6'
      unfold Oper.wp
      go_simp
      exact hK _ _ rfl (GM.step (fun _ _ _ _ _ => trivial) hRR (Below.refl _ _) 15 42 _ (by decide) (by decide) (by decide)) (fun _ _ h => h)
    · cases ho
      cases hd
      have e0 : a'.tmps.getD 42 undef = .tuple #[.agg #[.int .i64 0, .bool false, .int .i64 0, .string ⟨#[]⟩, .string ⟨#[]⟩, .string ⟨#[]⟩, .slice none 0 0], .int .i64 ex] := hdep 15 42 rfl (by kernel_rfl)
      have e0' : a'.tmps[42]?.getD undef = .tuple #[.agg #[.int .i64 0, .bool false, .int .i64 0, .string ⟨#[]⟩, .string ⟨#[]⟩, .string ⟨#[]⟩, .slice none 0 0], .int .i64 ex] := by simpa using e0
      clear ax0' ax1' ax2' ax3' ax4' ax5' ax6' ay0' ay1' ay2' ay3' ay4' ay5' ay6'
      unfold Oper.wp
      go_simp
      exact hK _ _ rfl (GM.step (fun _ _ _ _ _ => trivial) hRR (Below.refl _ _) 16 58 _ (by decide) (by decide) (by decide)) (fun _ _ h => h)
    · cases ho
      cases hd
      have e0 : a'.tmps.getD 42 undef = .tuple #[.agg #[.int .i64 0, .bool false, .int .i64 0, .string ⟨#[]⟩, .string ⟨#[]⟩, .string ⟨#[]⟩, .slice none 0 0], .int .i64 ex] := hdep 15 42 rfl (by kernel_rfl)
      have e0' : a'.tmps[42]?.getD undef = .tuple #[.agg #[.int .i64 0, .bool false, .int .i64 0, .string ⟨#[]⟩, .string ⟨#[]⟩, .string ⟨#[]⟩, .slice none 0 0], .int .i64 ex] := by simpa using e0
      clear ax0' ax1' ax2' ax3' ax4' ax5' ax6' ay0' ay1' ay2' ay3' ay4' ay5' ay6'
      unfold Oper.wp
      go_simp
      exact hK _ _ rfl (GM.step (fun _ _ _ _ _ => trivial) hRR (Below.refl _ _) 17 59 _ (by decide) (by decide) (by decide)) (fun _ _ h => h)
    · cases ho
      cases hd
      clear ax0' ax1' ax2' ax3' ax4' ax5' ax6' ay0' ay1' ay2' ay3' ay4' ay5' ay6'
      unfold Oper.wp
      go_simp
      exact hK _ _ trivial (hRR.alloc (by decide) hL (by rw [hsz]; first | decide | simp)) (SpS.up (ev1 _ _))
    · cases hd
    · cases ho
      cases hd
      have e0 : a'.tmps.getD 59 undef = .int .i64 ex := hdep 17 59 rfl (by kernel_rfl)
      have e0' : a'.tmps[59]?.getD undef = .int .i64 ex := by simpa using e0
      clear ax0' ax1' ax2' ax3' ax4' ax5' ax6' ay0' ay1' ay2' ay3' ay4' ay5' ay6'
      unfold Oper.wp
      go_simp
      exact hK _ _ rfl (GM.step (fun _ _ _ _ _ => trivial) hRR (Below.refl _ _) 20 15 _ (by decide) (by decide) (by decide)) (fun _ _ h => h)
  · intro q o ho hd L a' w' hL hw hRR hdep K hK
    have hqN : q < 21 := (List.getElem?_eq_some_iff.1 ho).1
    have hR := hRR.below
    have ax0' := (hR.cell (p := ⟨wC.heap.size, x * 7, none⟩) hBb).trans ax0
    have ay0' := (hR.cell (p := ⟨wC.heap.size, y * 7, none⟩) hBb).trans ay0
    have ax1' := (hR.cell (p := ⟨wC.heap.size, x * 7 + 1, none⟩) hBb).trans ax1
    have ay1' := (hR.cell (p := ⟨wC.heap.size, y * 7 + 1, none⟩) hBb).trans ay1
    have ax2' := (hR.cell (p := ⟨wC.heap.size, x * 7 + 2, none⟩) hBb).trans ax2
    have ay2' := (hR.cell (p := ⟨wC.heap.size, y * 7 + 2, none⟩) hBb).trans ay2
    have ax3' := (hR.cell (p := ⟨wC.heap.size, x * 7 + 3, none⟩) hBb).trans ax3
    have ay3' := (hR.cell (p := ⟨wC.heap.size, y * 7 + 3, none⟩) hBb).trans ay3
    have ax4' := (hR.cell (p := ⟨wC.heap.size, x * 7 + 4, none⟩) hBb).trans ax4
    have ay4' := (hR.cell (p := ⟨wC.heap.size, y * 7 + 4, none⟩) hBb).trans ay4
    have ax5' := (hR.cell (p := ⟨wC.heap.size, x * 7 + 5, none⟩) hBb).trans ax5
    have ay5' := (hR.cell (p := ⟨wC.heap.size, y * 7 + 5, none⟩) hBb).trans ay5
    have ax6' := (hR.cell (p := ⟨wC.heap.size, x * 7 + 6, none⟩) hBb).trans ax6
    have ay6' := (hR.cell (p := ⟨wC.heap.size, y * 7 + 6, none⟩) hBb).trans ay6
    have hc : q = 0 ∨ q = 1 ∨ q = 2 ∨ q = 3 ∨ q = 4 ∨ q = 5 ∨ q = 6 ∨ q = 7 ∨ q = 8 ∨ q = 9 ∨ q = 10 ∨ q = 11 ∨ q = 12 ∨ q = 13 ∨ q = 14 ∨ q = 15 ∨ q = 16 ∨ q = 17 ∨ q = 18 ∨ q = 19 ∨ q = 20 := by omega
    rcases hc with rfl | rfl | rfl | rfl | rfl | rfl | rfl | rfl | rfl | rfl | rfl | rfl | rfl | rfl | rfl | rfl | rfl | rfl | rfl | rfl | rfl
    · cases hd
    · cases hd
    · cases hd
    · cases hd
    · cases hd
    · cases hd
    · cases hd
    · cases hd
    · cases hd
    · cases hd
    · cases hd
    · cases hd
    · cases hd
    · cases hd
    · cases hd
    · cases hd
    · cases hd
    · cases hd
    · cases hd
    · cases ho
      have e0 : a'.tmps.getD 58 undef = .agg #[.int .i64 0, .bool false, .int .i64 0, .string ⟨#[]⟩, .string ⟨#[]⟩, .string ⟨#[]⟩, .slice none 0 0] := hdep 16 58 rfl (by kernel_rfl)
      have e0' : a'.tmps[58]?.getD undef = .agg #[.int .i64 0, .bool false, .int .i64 0, .string ⟨#[]⟩, .string ⟨#[]⟩, .string ⟨#[]⟩, .slice none 0 0] := by simpa using e0
      clear ax0' ax1' ax2' ax3' ax4' ax5' ax6' ay0' ay1' ay2' ay3' ay4' ay5' ay6'
      obtain ⟨V, eV, hVle, hVz, hS⟩ := hRR.store (hw 18 (by kernel_rfl)) hL
      have d0 : w'.cell? ⟨V, 0, none⟩ = some (.int .i64 0) := by rw [Lib.cell_of_heap hVz]; rfl
      have d1 : w'.cell? ⟨V, 1, none⟩ = some (.bool false) := by rw [Lib.cell_of_heap hVz]; rfl
      have d2 : w'.cell? ⟨V, 2, none⟩ = some (.int .i64 0) := by rw [Lib.cell_of_heap hVz]; rfl
      have d3 : w'.cell? ⟨V, 3, none⟩ = some (.string ⟨#[]⟩) := by rw [Lib.cell_of_heap hVz]; rfl
      have d4 : w'.cell? ⟨V, 4, none⟩ = some (.string ⟨#[]⟩) := by rw [Lib.cell_of_heap hVz]; rfl
      have d5 : w'.cell? ⟨V, 5, none⟩ = some (.string ⟨#[]⟩) := by rw [Lib.cell_of_heap hVz]; rfl
      have d6 : w'.cell? ⟨V, 6, none⟩ = some (.slice none 0 0) := by rw [Lib.cell_of_heap hVz]; rfl
      have df : ∀ o, w'.frozen? ⟨V, o, none⟩ = false := fun o => Lib.frozen_of_heap hVz o
      have HP := hide (And.intro (hS _ (set7S_below hRR.below hVle (.int .i64 0) (.bool false) (.int .i64 0) (.string ⟨#[]⟩) (.string ⟨#[]⟩) (.string ⟨#[]⟩) (.slice none 0 0)) trivial) (SpS.kept 7 46 hVz rfl (fun k hk => set7S_heap w' V k (.int .i64 0) (.bool false) (.int .i64 0) (.string ⟨#[]⟩) (.string ⟨#[]⟩) (.string ⟨#[]⟩) (.slice none 0 0) hk) (l := [.eq (.agg #[.string ⟨#[]⟩, .string ⟨#[]⟩, .string ⟨#[]⟩, .string ⟨#[]⟩, .string ⟨#[]⟩, .string ⟨#[]⟩]), .eq (.int .i64 n), .eq (.int .i64 (m : Nat)), .eq (.int .i64 (13 + (m : Int))), .eq (.slice (some ⟨wC.heap.size, 0, none⟩) 3 3), .eq (.int .i64 (x : Nat)), .eq (.pointer (some ⟨wC.heap.size, x * 7, none⟩)), .eq (.agg #[.int .i64 rx.k, .bool rx.b, .int .i64 rx.n, .string rx.s, .string rx.t, .string rx.i, .slice rx.lo rx.ll rx.lc]), .eq (.slice (some ⟨wC.heap.size, 0, none⟩) 3 3), .eq (.int .i64 (y : Nat)), .eq (.pointer (some ⟨wC.heap.size, y * 7, none⟩)), .eq (.agg #[.int .i64 ry.k, .bool ry.b, .int .i64 ry.n, .string ry.s, .string ry.t, .string ry.i, .slice ry.lo ry.ll ry.lc]), .blk (0) (fun b => .slice (some ⟨b, 0, none⟩) 2 2) (.cells #[.int .i64 rx.k, .bool rx.b, .int .i64 rx.n, .string rx.s, .string rx.t, .string rx.i, .slice rx.lo rx.ll rx.lc, .int .i64 ry.k, .bool ry.b, .int .i64 ry.n, .string ry.s, .string ry.t, .string ry.i, .slice ry.lo ry.ll ry.lc] 42 (0, 0)), .blk (0) (fun b => .agg #[.int .i64 (13 + (m : Int)), .bool false, .int .i64 0, .string ⟨#[]⟩, .string ⟨#[]⟩, .string ⟨#[]⟩, .slice (some ⟨b, 0, none⟩) 2 2]) (.cells #[.int .i64 rx.k, .bool rx.b, .int .i64 rx.n, .string rx.s, .string rx.t, .string rx.i, .slice rx.lo rx.ll rx.lc, .int .i64 ry.k, .bool ry.b, .int .i64 ry.n, .string ry.s, .string ry.t, .string ry.i, .slice ry.lo ry.ll ry.lc] 42 (0, 0)), .eq (.tuple #[.agg #[.int .i64 0, .bool false, .int .i64 0, .string ⟨#[]⟩, .string ⟨#[]⟩, .string ⟨#[]⟩, .slice none 0 0], .int .i64 ex]), .eq (.tuple #[.agg #[.int .i64 0, .bool false, .int .i64 0, .string ⟨#[]⟩, .string ⟨#[]⟩, .string ⟨#[]⟩, .slice none 0 0], .int .i64 ex]), .eq (.agg #[.int .i64 0, .bool false, .int .i64 0, .string ⟨#[]⟩, .string ⟨#[]⟩, .string ⟨#[]⟩, .slice none 0 0]), .eq (.int .i64 ex), .any, .any, .eq (.int .i64 ex)]) rfl))
      have e1 := eV
      clear hVz hS
      unfold Oper.wp
      go_simp
      exact hK _ (unhide HP).1 (unhide HP).2 undef
    · cases hd
  · intro v L w' hLa hRR hv
    have bE := hRR.below
    obtain ⟨V, eV, hVle, hVF⟩ := hRR.full (hLa 19 (by decide))
    have f0 : v 0 = .agg #[.string ⟨#[]⟩, .string ⟨#[]⟩, .string ⟨#[]⟩, .string ⟨#[]⟩, .string ⟨#[]⟩, .string ⟨#[]⟩] := (hv 0 43 rfl).1
    have f1 : v 1 = .int .i64 n := (hv 1 44 rfl).1
    have f2 : v 2 = .int .i64 (m : Nat) := (hv 2 45 rfl).1
    have f3 : v 3 = .int .i64 (13 + (m : Int)) := (hv 3 46 rfl).1
    have f4 : v 4 = .slice (some ⟨wC.heap.size, 0, none⟩) 3 3 := (hv 4 47 rfl).1
    have f5 : v 5 = .int .i64 (x : Nat) := (hv 5 48 rfl).1
    have f6 : v 6 = .pointer (some ⟨wC.heap.size, x * 7, none⟩) := (hv 6 49 rfl).1
    have f7 : v 7 = .agg #[.int .i64 rx.k, .bool rx.b, .int .i64 rx.n, .string rx.s, .string rx.t, .string rx.i, .slice rx.lo rx.ll rx.lc] := (hv 7 50 rfl).1
    have f8 : v 8 = .slice (some ⟨wC.heap.size, 0, none⟩) 3 3 := (hv 8 51 rfl).1
    have f9 : v 9 = .int .i64 (y : Nat) := (hv 9 52 rfl).1
    have f10 : v 10 = .pointer (some ⟨wC.heap.size, y * 7, none⟩) := (hv 10 53 rfl).1
    have f11 : v 11 = .agg #[.int .i64 ry.k, .bool ry.b, .int .i64 ry.n, .string ry.s, .string ry.t, .string ry.i, .slice ry.lo ry.ll ry.lc] := (hv 11 54 rfl).1
    have f14 : v 14 = .tuple #[.agg #[.int .i64 0, .bool false, .int .i64 0, .string ⟨#[]⟩, .string ⟨#[]⟩, .string ⟨#[]⟩, .slice none 0 0], .int .i64 ex] := (hv 14 57 rfl).1
    have f15 : v 15 = .tuple #[.agg #[.int .i64 0, .bool false, .int .i64 0, .string ⟨#[]⟩, .string ⟨#[]⟩, .string ⟨#[]⟩, .slice none 0 0], .int .i64 ex] := (hv 15 42 rfl).1
    have f16 : v 16 = .agg #[.int .i64 0, .bool false, .int .i64 0, .string ⟨#[]⟩, .string ⟨#[]⟩, .string ⟨#[]⟩, .slice none 0 0] := (hv 16 58 rfl).1
    have f17 : v 17 = .int .i64 ex := (hv 17 59 rfl).1
    have f20 : v 20 = .int .i64 ex := (hv 20 15 rfl).1
    obtain ⟨b12, hB12, f12, ho12⟩ : (.blk (0) (fun b => .slice (some ⟨b, 0, none⟩) 2 2) (.cells #[.int .i64 rx.k, .bool rx.b, .int .i64 rx.n, .string rx.s, .string rx.t, .string rx.i, .slice rx.lo rx.ll rx.lc, .int .i64 ry.k, .bool ry.b, .int .i64 ry.n, .string ry.s, .string ry.t, .string ry.i, .slice ry.lo ry.ll ry.lc] 42 (0, 0)) : Sv).sp (v 12) w' := (hv 12 55 rfl).1
    obtain ⟨b13, hB13, f13, ho13⟩ : (.blk (0) (fun b => .agg #[.int .i64 (13 + (m : Int)), .bool false, .int .i64 0, .string ⟨#[]⟩, .string ⟨#[]⟩, .string ⟨#[]⟩, .slice (some ⟨b, 0, none⟩) 2 2]) (.cells #[.int .i64 rx.k, .bool rx.b, .int .i64 rx.n, .string rx.s, .string rx.t, .string rx.i, .slice rx.lo rx.ll rx.lc, .int .i64 ry.k, .bool ry.b, .int .i64 ry.n, .string ry.s, .string ry.t, .string ry.i, .slice ry.lo ry.ll ry.lc] 42 (0, 0)) : Sv).sp (v 13) w' := (hv 13 56 rfl).1
    have f18 : v 18 = .pointer (some ⟨V, 0, none⟩) := ((hv 18 14 rfl).2).symm.trans eV
    clear eV
    clear hRR hv hLa
    simp only [putAll, dstOf, List.getElem?_cons_zero, List.getElem?_cons_succ, Option.bind_some, List.length_cons, List.length_nil, f0, f1, f2, f3, f4, f5, f6, f7, f8, f9, f10, f11, f12, f13, f14, f15, f16, f17, f18, f20]
    clear f0 f1 f2 f3 f4 f5 f6 f7 f8 f9 f10 f11 f12 f13 f14 f15 f16 f17 f18 f20
    simp only [Act.put, List.setIfInBounds_toArray, List.set_cons_succ, List.set_cons_zero]
    generalize v 19 = vv19
    have b9 := bE
    obtain ⟨wF, hwF⟩ : ∃ q, q = w' := ⟨_, rfl⟩
    subst hwF
    clear ho12 ho13
    have hBc : wC.heap.size < wF.heap.size := by have := b9.size; omega
    have bx0 := (b9.cell (p := ⟨wC.heap.size, x * 7, none⟩) hBb).trans ax0
    have by_0 := (b9.cell (p := ⟨wC.heap.size, y * 7, none⟩) hBb).trans ay0
    have bx1 := (b9.cell (p := ⟨wC.heap.size, x * 7 + 1, none⟩) hBb).trans ax1
    have by_1 := (b9.cell (p := ⟨wC.heap.size, y * 7 + 1, none⟩) hBb).trans ay1
    have bx2 := (b9.cell (p := ⟨wC.heap.size, x * 7 + 2, none⟩) hBb).trans ax2
    have by_2 := (b9.cell (p := ⟨wC.heap.size, y * 7 + 2, none⟩) hBb).trans ay2
    have bx3 := (b9.cell (p := ⟨wC.heap.size, x * 7 + 3, none⟩) hBb).trans ax3
    have by_3 := (b9.cell (p := ⟨wC.heap.size, y * 7 + 3, none⟩) hBb).trans ay3
    have bx4 := (b9.cell (p := ⟨wC.heap.size, x * 7 + 4, none⟩) hBb).trans ax4
    have by_4 := (b9.cell (p := ⟨wC.heap.size, y * 7 + 4, none⟩) hBb).trans ay4
    have bx5 := (b9.cell (p := ⟨wC.heap.size, x * 7 + 5, none⟩) hBb).trans ax5
    have by_5 := (b9.cell (p := ⟨wC.heap.size, y * 7 + 5, none⟩) hBb).trans ay5
    have bx6 := (b9.cell (p := ⟨wC.heap.size, x * 7 + 6, none⟩) hBb).trans ax6
    have by_6 := (b9.cell (p := ⟨wC.heap.size, y * 7 + 6, none⟩) hBb).trans ay6
    go_upto_region 10 with fail
    refine wp_specsD (SpS [.eq (.agg #[.string ⟨#[]⟩, .string ⟨#[]⟩, .string ⟨#[]⟩, .string ⟨#[]⟩, .string ⟨#[]⟩, .string ⟨#[]⟩]), .eq (.slice (some ⟨wC.heap.size, 0, none⟩) 3 3), .eq (.int .i64 (x : Nat)), .eq (.pointer (some ⟨wC.heap.size, x * 7, none⟩)), .eq (.agg #[.int .i64 rx.k, .bool rx.b, .int .i64 rx.n, .string rx.s, .string rx.t, .string rx.i, .slice rx.lo rx.ll rx.lc]), .eq (.slice (some ⟨wC.heap.size, 0, none⟩) 3 3), .eq (.int .i64 (y : Nat)), .eq (.pointer (some ⟨wC.heap.size, y * 7, none⟩)), .eq (.agg #[.int .i64 ry.k, .bool ry.b, .int .i64 ry.n, .string ry.s, .string ry.t, .string ry.i, .slice ry.lo ry.ll ry.lc]), .eq (.slice (some ⟨wC.heap.size, 0, none⟩) 3 3), .eq (.int .i64 (y : Nat)), .eq (.pointer (some ⟨wC.heap.size, y * 7, none⟩)), .eq (.agg #[.int .i64 ry.k, .bool ry.b, .int .i64 ry.n, .string ry.s, .string ry.t, .string ry.i, .slice ry.lo ry.ll ry.lc]), .blk (0) (fun b => .slice (some ⟨b, 0, none⟩) 3 3) (.cells #[.int .i64 rx.k, .bool rx.b, .int .i64 rx.n, .string rx.s, .string rx.t, .string rx.i, .slice rx.lo rx.ll rx.lc, .int .i64 ry.k, .bool ry.b, .int .i64 ry.n, .string ry.s, .string ry.t, .string ry.i, .slice ry.lo ry.ll ry.lc, .int .i64 ry.k, .bool ry.b, .int .i64 ry.n, .string ry.s, .string ry.t, .string ry.i, .slice ry.lo ry.ll ry.lc] 42 (0, 0)), .blk (0) (fun b => .agg #[.int .i64 25, .bool false, .int .i64 0, .string ⟨#[]⟩, .string ⟨#[]⟩, .string ⟨#[]⟩, .slice (some ⟨b, 0, none⟩) 3 3]) (.cells #[.int .i64 rx.k, .bool rx.b, .int .i64 rx.n, .string rx.s, .string rx.t, .string rx.i, .slice rx.lo rx.ll rx.lc, .int .i64 ry.k, .bool ry.b, .int .i64 ry.n, .string ry.s, .string ry.t, .string ry.i, .slice ry.lo ry.ll ry.lc, .int .i64 ry.k, .bool ry.b, .int .i64 ry.n, .string ry.s, .string ry.t, .string ry.i, .slice ry.lo ry.ll ry.lc] 42 (0, 0)), .eq (.tuple #[.agg #[.int .i64 0, .bool false, .int .i64 0, .string ⟨#[]⟩, .string ⟨#[]⟩, .string ⟨#[]⟩, .slice none 0 0], .int .i64 ex]), .eq (.tuple #[.agg #[.int .i64 0, .bool false, .int .i64 0, .string ⟨#[]⟩, .string ⟨#[]⟩, .string ⟨#[]⟩, .slice none 0 0], .int .i64 ex]), .eq (.agg #[.int .i64 0, .bool false, .int .i64 0, .string ⟨#[]⟩, .string ⟨#[]⟩, .string ⟨#[]⟩, .slice none 0 0]), .eq (.int .i64 ex), .any, .any, .eq (.int .i64 ex)]) (GM 19 20 16 wF #[.int .i64 0, .bool false, .int .i64 0, .string ⟨#[]⟩, .string ⟨#[]⟩, .string ⟨#[]⟩, .slice none 0 0] 46 (fun _ _ => True)) (by kernel_rfl) (by kernel_rfl) (by kernel_rfl) (GM.start _ wF) ?_ ?_ ?_
    · intro q o d ho hd L a' w' hL hw hRR hdep hslot hsz K hK
      have hqN : q < 22 := dstOf_lt hd
      have hR := hRR.below
      have ax0' := (hR.cell (p := ⟨wC.heap.size, x * 7, none⟩) hBc).trans bx0
      have ay0' := (hR.cell (p := ⟨wC.heap.size, y * 7, none⟩) hBc).trans by_0
      have ax1' := (hR.cell (p := ⟨wC.heap.size, x * 7 + 1, none⟩) hBc).trans bx1
      have ay1' := (hR.cell (p := ⟨wC.heap.size, y * 7 + 1, none⟩) hBc).trans by_1
      have ax2' := (hR.cell (p := ⟨wC.heap.size, x * 7 + 2, none⟩) hBc).trans bx2
      have ay2' := (hR.cell (p := ⟨wC.heap.size, y * 7 + 2, none⟩) hBc).trans by_2
      have ax3' := (hR.cell (p := ⟨wC.heap.size, x * 7 + 3, none⟩) hBc).trans bx3
      have ay3' := (hR.cell (p := ⟨wC.heap.size, y * 7 + 3, none⟩) hBc).trans by_3
      have ax4' := (hR.cell (p := ⟨wC.heap.size, x * 7 + 4, none⟩) hBc).trans bx4
      have ay4' := (hR.cell (p := ⟨wC.heap.size, y * 7 + 4, none⟩) hBc).trans by_4
      have ax5' := (hR.cell (p := ⟨wC.heap.size, x * 7 + 5, none⟩) hBc).trans bx5
      have ay5' := (hR.cell (p := ⟨wC.heap.size, y * 7 + 5, none⟩) hBc).trans by_5
      have ax6' := (hR.cell (p := ⟨wC.heap.size, x * 7 + 6, none⟩) hBc).trans bx6
      have ay6' := (hR.cell (p := ⟨wC.heap.size, y * 7 + 6, none⟩) hBc).trans by_6
      have hs10 : a'.tmps.getD 10 undef = .slice (some ⟨wC.heap.size, 0, none⟩) 3 3 := hslot 10 (fun q h => by have hl := dstOf_lt h; match q, hl with | 0, _ => cases h | 1, _ => cases h | 2, _ => cases h | 3, _ => cases h | 4, _ => cases h | 5, _ => cases h | 6, _ => cases h | 7, _ => cases h | 8, _ => cases h | 9, _ => cases h | 10, _ => cases h | 11, _ => cases h | 12, _ => cases h | 13, _ => cases h | 14, _ => cases h | 15, _ => cases h | 16, _ => cases h | 17, _ => cases h | 18, _ => cases h | 19, _ => cases h | 20, _ => cases h | 21, _ => cases h)
      have hs12 : a'.tmps.getD 12 undef = .int .i64 (x : Nat) := hslot 12 (fun q h => by have hl := dstOf_lt h; match q, hl with | 0, _ => cases h | 1, _ => cases h | 2, _ => cases h | 3, _ => cases h | 4, _ => cases h | 5, _ => cases h | 6, _ => cases h | 7, _ => cases h | 8, _ => cases h | 9, _ => cases h | 10, _ => cases h | 11, _ => cases h | 12, _ => cases h | 13, _ => cases h | 14, _ => cases h | 15, _ => cases h | 16, _ => cases h | 17, _ => cases h | 18, _ => cases h | 19, _ => cases h | 20, _ => cases h | 21, _ => cases h)
      have hs13 : a'.tmps.getD 13 undef = .int .i64 (y : Nat) := hslot 13 (fun q h => by have hl := dstOf_lt h; match q, hl with | 0, _ => cases h | 1, _ => cases h | 2, _ => cases h | 3, _ => cases h | 4, _ => cases h | 5, _ => cases h | 6, _ => cases h | 7, _ => cases h | 8, _ => cases h | 9, _ => cases h | 10, _ => cases h | 11, _ => cases h | 12, _ => cases h | 13, _ => cases h | 14, _ => cases h | 15, _ => cases h | 16, _ => cases h | 17, _ => cases h | 18, _ => cases h | 19, _ => cases h | 20, _ => cases h | 21, _ => cases h)
      have hc : q = 0 ∨ q = 1 ∨ q = 2 ∨ q = 3 ∨ q = 4 ∨ q = 5 ∨ q = 6 ∨ q = 7 ∨ q = 8 ∨ q = 9 ∨ q = 10 ∨ q = 11 ∨ q = 12 ∨ q = 13 ∨ q = 14 ∨ q = 15 ∨ q = 16 ∨ q = 17 ∨ q = 18 ∨ q = 19 ∨ q = 20 ∨ q = 21 := by omega
      rcases hc with rfl | rfl | rfl | rfl | rfl | rfl | rfl | rfl | rfl | rfl | rfl | rfl | rfl | rfl | rfl | rfl | rfl | rfl | rfl | rfl | rfl | rfl
      · cases ho
        cases hd
        clear ax0' ax1' ax2' ax3' ax4' ax5' ax6' ay0' ay1' ay2' ay3' ay4' ay5' ay6'
        unfold Oper.wp
        go_simp
        exact hK _ _ rfl (GM.step (fun _ _ _ _ _ => trivial) hRR (Below.refl _ _) 0 61 _ (by decide) (by decide) (by decide)) (fun _ _ h => h)
      · cases ho
        cases hd
        have e0 := hs10
        clear ax0' ax1' ax2' ax3' ax4' ax5' ax6' ay0' ay1' ay2' ay3' ay4' ay5' ay6'
        unfold Oper.wp
        go_simp
        exact hK _ _ rfl (GM.step (fun _ _ _ _ _ => trivial) hRR (Below.refl _ _) 1 62 _ (by decide) (by decide) (by decide)) (fun _ _ h => h)
      · cases ho
        cases hd
        have e0 := hs12
        clear ax0' ax1' ax2' ax3' ax4' ax5' ax6' ay0' ay1' ay2' ay3' ay4' ay5' ay6'
        unfold Oper.wp
        go_simp
        exact hK _ _ rfl (GM.step (fun _ _ _ _ _ => trivial) hRR (Below.refl _ _) 2 63 _ (by decide) (by decide) (by decide)) (fun _ _ h => h)
      · cases ho
        cases hd
        have e0 : a'.tmps.getD 62 undef = .slice (some ⟨wC.heap.size, 0, none⟩) 3 3 := hdep 1 62 rfl (by kernel_rfl)
        have e0' : a'.tmps[62]?.getD undef = .slice (some ⟨wC.heap.size, 0, none⟩) 3 3 := by simpa using e0
        have e1 : a'.tmps.getD 63 undef = .int .i64 (x : Nat) := hdep 2 63 rfl (by kernel_rfl)
        have e1' : a'.tmps[63]?.getD undef = .int .i64 (x : Nat) := by simpa using e1
        clear ax0' ax1' ax2' ax3' ax4' ax5' ax6' ay0' ay1' ay2' ay3' ay4' ay5' ay6'
        unfold Oper.wp
        go_simp
        exact hK _ _ rfl (GM.step (fun _ _ _ _ _ => trivial) hRR (Below.refl _ _) 3 64 _ (by decide) (by decide) (by decide)) (fun _ _ h => h)
      · cases ho
        cases hd
        have e0 : a'.tmps.getD 64 undef = .pointer (some ⟨wC.heap.size, x * 7, none⟩) := hdep 3 64 rfl (by kernel_rfl)
        have e0' : a'.tmps[64]?.getD undef = .pointer (some ⟨wC.heap.size, x * 7, none⟩) := by simpa using e0
        clear ay0' ay1' ay2' ay3' ay4' ay5' ay6'
        unfold Oper.wp
        go_simp
        exact hK _ _ rfl (GM.step (fun _ _ _ _ _ => trivial) hRR (Below.refl _ _) 4 65 _ (by decide) (by decide) (by decide)) (fun _ _ h => h)
      · cases ho
        cases hd
        have e0 := hs10
        clear ax0' ax1' ax2' ax3' ax4' ax5' ax6' ay0' ay1' ay2' ay3' ay4' ay5' ay6'
        unfold Oper.wp
        go_simp
        exact hK _ _ rfl (GM.step (fun _ _ _ _ _ => trivial) hRR (Below.refl _ _) 5 66 _ (by decide) (by decide) (by decide)) (fun _ _ h => h)
      · cases ho
        cases hd
        have e0 := hs13
        clear ax0' ax1' ax2' ax3' ax4' ax5' ax6' ay0' ay1' ay2' ay3' ay4' ay5' ay6'
        unfold Oper.wp
        go_simp
        exact hK _ _ rfl (GM.step (fun _ _ _ _ _ => trivial) hRR (Below.refl _ _) 6 67 _ (by decide) (by decide) (by decide)) (fun _ _ h => h)
      · cases ho
        cases hd
        have e0 : a'.tmps.getD 66 undef = .slice (some ⟨wC.heap.size, 0, none⟩) 3 3 := hdep 5 66 rfl (by kernel_rfl)
        have e0' : a'.tmps[66]?.getD undef = .slice (some ⟨wC.heap.size, 0, none⟩) 3 3 := by simpa using e0
        have e1 : a'.tmps.getD 67 undef = .int .i64 (y : Nat) := hdep 6 67 rfl (by kernel_rfl)
        have e1' : a'.tmps[67]?.getD undef = .int .i64 (y : Nat) := by simpa using e1
        clear ax0' ax1' ax2' ax3' ax4' ax5' ax6' ay0' ay1' ay2' ay3' ay4' ay5' ay6'
        unfold Oper.wp
        go_simp
        exact hK _ _ rfl (GM.step (fun _ _ _ _ _ => trivial) hRR (Below.refl _ _) 7 68 _ (by decide) (by decide) (by decide)) (fun _ _ h => h)
      · cases ho
        cases hd
        have e0 : a'.tmps.getD 68 undef = .pointer (some ⟨wC.heap.size, y * 7, none⟩) := hdep 7 68 rfl (by kernel_rfl)
        have e0' : a'.tmps[68]?.getD undef = .pointer (some ⟨wC.heap.size, y * 7, none⟩) := by simpa using e0
        clear ax0' ax1' ax2' ax3' ax4' ax5' ax6'
        unfold Oper.wp
        go_simp
        exact hK _ _ rfl (GM.step (fun _ _ _ _ _ => trivial) hRR (Below.refl _ _) 8 69 _ (by decide) (by decide) (by decide)) (fun _ _ h => h)
      · cases ho
        cases hd
        have e0 := hs10
        clear ax0' ax1' ax2' ax3' ax4' ax5' ax6' ay0' ay1' ay2' ay3' ay4' ay5' ay6'
        unfold Oper.wp
        go_simp
        exact hK _ _ rfl (GM.step (fun _ _ _ _ _ => trivial) hRR (Below.refl _ _) 9 70 _ (by decide) (by decide) (by decide)) (fun _ _ h => h)
      · cases ho
        cases hd
        have e0 := hs13
        clear ax0' ax1' ax2' ax3' ax4' ax5' ax6' ay0' ay1' ay2' ay3' ay4' ay5' ay6'
        unfold Oper.wp
        go_simp
        exact hK _ _ rfl (GM.step (fun _ _ _ _ _ => trivial) hRR (Below.refl _ _) 10 71 _ (by decide) (by decide) (by decide)) (fun _ _ h => h)
      · cases ho
        cases hd
        have e0 : a'.tmps.getD 70 undef = .slice (some ⟨wC.heap.size, 0, none⟩) 3 3 := hdep 9 70 rfl (by kernel_rfl)
        have e0' : a'.tmps[70]?.getD undef = .slice (some ⟨wC.heap.size, 0, none⟩) 3 3 := by simpa using e0
        have e1 : a'.tmps.getD 71 undef = .int .i64 (y : Nat) := hdep 10 71 rfl (by kernel_rfl)
        have e1' : a'.tmps[71]?.getD undef = .int .i64 (y : Nat) := by simpa using e1
        clear ax0' ax1' ax2' ax3' ax4' ax5' ax6' ay0' ay1' ay2' ay3' ay4' ay5' ay6'
        unfold Oper.wp
        go_simp
        exact hK _ _ rfl (GM.step (fun _ _ _ _ _ => trivial) hRR (Below.refl _ _) 11 72 _ (by decide) (by decide) (by decide)) (fun _ _ h => h)
      · cases ho
        cases hd
        have e0 : a'.tmps.getD 72 undef = .pointer (some ⟨wC.heap.size, y * 7, none⟩) := hdep 11 72 rfl (by kernel_rfl)
        have e0' : a'.tmps[72]?.getD undef = .pointer (some ⟨wC.heap.size, y * 7, none⟩) := by simpa using e0
        clear ax0' ax1' ax2' ax3' ax4' ax5' ax6'
        unfold Oper.wp
        go_simp
        exact hK _ _ rfl (GM.step (fun _ _ _ _ _ => trivial) hRR (Below.refl _ _) 12 73 _ (by decide) (by decide) (by decide)) (fun _ _ h => h)
      · cases ho
        cases hd
        have e0 : a'.tmps.getD 65 undef = .agg #[.int .i64 rx.k, .bool rx.b, .int .i64 rx.n, .string rx.s, .string rx.t, .string rx.i, .slice rx.lo rx.ll rx.lc] := hdep 4 65 rfl (by kernel_rfl)
        have e0' : a'.tmps[65]?.getD undef = .agg #[.int .i64 rx.k, .bool rx.b, .int .i64 rx.n, .string rx.s, .string rx.t, .string rx.i, .slice rx.lo rx.ll rx.lc] := by simpa using e0
        have e1 : a'.tmps.getD 69 undef = .agg #[.int .i64 ry.k, .bool ry.b, .int .i64 ry.n, .string ry.s, .string ry.t, .string ry.i, .slice ry.lo ry.ll ry.lc] := hdep 8 69 rfl (by kernel_rfl)
        have e1' : a'.tmps[69]?.getD undef = .agg #[.int .i64 ry.k, .bool ry.b, .int .i64 ry.n, .string ry.s, .string ry.t, .string ry.i, .slice ry.lo ry.ll ry.lc] := by simpa using e1
        have e2 : a'.tmps.getD 73 undef = .agg #[.int .i64 ry.k, .bool ry.b, .int .i64 ry.n, .string ry.s, .string ry.t, .string ry.i, .slice ry.lo ry.ll ry.lc] := hdep 12 73 rfl (by kernel_rfl)
        have e2' : a'.tmps[73]?.getD undef = .agg #[.int .i64 ry.k, .bool ry.b, .int .i64 ry.n, .string ry.s, .string ry.t, .string ry.i, .slice ry.lo ry.ll ry.lc] := by simpa using e2
        clear ax0' ax1' ax2' ax3' ax4' ax5' ax6' ay0' ay1' ay2' ay3' ay4' ay5' ay6'
        have hb0 : 65 < a'.tmps.size := by rw [hsz]; first | decide | simp
        have e0'' : a'.tmps[65] = .agg #[.int .i64 rx.k, .bool rx.b, .int .i64 rx.n, .string rx.s, .string rx.t, .string rx.i, .slice rx.lo rx.ll rx.lc] := by simpa [hb0] using e0
        have hb1 : 69 < a'.tmps.size := by rw [hsz]; first | decide | simp
        have e1'' : a'.tmps[69] = .agg #[.int .i64 ry.k, .bool ry.b, .int .i64 ry.n, .string ry.s, .string ry.t, .string ry.i, .slice ry.lo ry.ll ry.lc] := by simpa [hb1] using e1
        have hb2 : 73 < a'.tmps.size := by rw [hsz]; first | decide | simp
        have e2'' : a'.tmps[73] = .agg #[.int .i64 ry.k, .bool ry.b, .int .i64 ry.n, .string ry.s, .string ry.t, .string ry.i, .slice ry.lo ry.ll ry.lc] := by simpa [hb2] using e2
        unfold Oper.wp
        go_simp
        exact hK _ _ ⟨w'.heap.size, Nat.zero_le _, rfl, alloc_heap _ _⟩ (GM.step (fun _ _ _ _ _ => trivial) hRR (ev1 _ _) 13 74 _ (by decide) (by decide) (by decide)) (SpS.up (ev1 _ _))
      · cases ho
        cases hd
        obtain ⟨b0, hB0, e0, ho0⟩ : (.blk (0) (fun b => .slice (some ⟨b, 0, none⟩) 3 3) (.cells #[.int .i64 rx.k, .bool rx.b, .int .i64 rx.n, .string rx.s, .string rx.t, .string rx.i, .slice rx.lo rx.ll rx.lc, .int .i64 ry.k, .bool ry.b, .int .i64 ry.n, .string ry.s, .string ry.t, .string ry.i, .slice ry.lo ry.ll ry.lc, .int .i64 ry.k, .bool ry.b, .int .i64 ry.n, .string ry.s, .string ry.t, .string ry.i, .slice ry.lo ry.ll ry.lc] 42 (0, 0)) : Sv).sp (a'.tmps.getD 74 undef) w' := hdep 13 74 rfl (by kernel_rfl)
        have e0' : a'.tmps[74]?.getD undef = .slice (some ⟨b0, 0, none⟩) 3 3 := by simpa using e0
        have Ho0 := hide ho0
        clear ho0 ax0' ax1' ax2' ax3' ax4' ax5' ax6' ay0' ay1' ay2' ay3' ay4' ay5' ay6'
        have hb0 : 74 < a'.tmps.size := by rw [hsz]; first | decide | simp
        have e0'' : a'.tmps[74] = .slice (some ⟨b0, 0, none⟩) 3 3 := by simpa [hb0] using e0
        unfold Oper.wp
        go_simp
        exact hK _ _ ⟨b0, hB0, rfl, unhide Ho0⟩ (GM.step (fun _ _ _ _ _ => trivial) hRR (Below.refl _ _) 14 75 _ (by decide) (by decide) (by decide)) (fun _ _ h => h)
      · cases ho
        cases hd
        have e0 : a'.tmps.getD 61 undef = .agg #[.string ⟨#[]⟩, .string ⟨#[]⟩, .string ⟨#[]⟩, .string ⟨#[]⟩, .string ⟨#[]⟩, .string ⟨#[]⟩] := hdep 0 61 rfl (by kernel_rfl)
        have e0' : a'.tmps[61]?.getD undef = .agg #[.string ⟨#[]⟩, .string ⟨#[]⟩, .string ⟨#[]⟩, .string ⟨#[]⟩, .string ⟨#[]⟩, .string ⟨#[]⟩] := by simpa using e0
        obtain ⟨b1, hB1, e1, ho1⟩ : (.blk (0) (fun b => .agg #[.int .i64 25, .bool false, .int .i64 0, .string ⟨#[]⟩, .string ⟨#[]⟩, .string ⟨#[]⟩, .slice (some ⟨b, 0, none⟩) 3 3]) (.cells #[.int .i64 rx.k, .bool rx.b, .int .i64 rx.n, .string rx.s, .string rx.t, .string rx.i, .slice rx.lo rx.ll rx.lc, .int .i64 ry.k, .bool ry.b, .int .i64 ry.n, .string ry.s, .string ry.t, .string ry.i, .slice ry.lo ry.ll ry.lc, .int .i64 ry.k, .bool ry.b, .int .i64 ry.n, .string ry.s, .string ry.t, .string ry.i, .slice ry.lo ry.ll ry.lc] 42 (0, 0)) : Sv).sp (a'.tmps.getD 75 undef) w' := hdep 14 75 rfl (by kernel_rfl)
        have e1' : a'.tmps[75]?.getD undef = .agg #[.int .i64 25, .bool false, .int .i64 0, .string ⟨#[]⟩, .string ⟨#[]⟩, .string ⟨#[]⟩, .slice (some ⟨b1, 0, none⟩) 3 3] := by simpa using e1
        have Ho1 := hide ho1
        clear ho1 ax0' ax1' ax2' ax3' ax4' ax5' ax6' ay0' ay1' ay2' ay3' ay4' ay5' ay6'
        unfold Oper.wp
        go_simp
        refine (CO2 w' b1 (b9.trans (hR.mono b9.size)) (unhide Ho1)).mono ?_
        rintro e w9 ⟨rfl, b9⟩
        exact hK _ _ rfl (GM.step (fun _ _ _ _ _ => trivial) hRR b9 15 76 _ (by decide) (by decide) (by decide)) (SpS.up b9)
      · cases ho
        cases hd
        have e0 : a'.tmps.getD 76 undef = .tuple #[.agg #[.int .i64 0, .bool false, .int .i64 0, .string ⟨#[]⟩, .string ⟨#[]⟩, .string ⟨#[]⟩, .slice none 0 0], .int .i64 ex] := hdep 15 76 rfl (by kernel_rfl)
        have e0' : a'.tmps[76]?.getD undef = .tuple #[.agg #[.int .i64 0, .bool false, .int .i64 0, .string ⟨#[]⟩, .string ⟨#[]⟩, .string ⟨#[]⟩, .slice none 0 0], .int .i64 ex] := by simpa using e0
        clear ax0' ax1' ax2' ax3' ax4' ax5' ax6' ay0' ay1' ay2' ay3' ay4' ay5' ay6'
        unfold Oper.wp
        go_simp
        exact hK _ _ rfl (GM.step (fun _ _ _ _ _ => trivial) hRR (Below.refl _ _) 16 60 _ (by decide) (by decide) (by decide)) (fun _ _ h => h)
      · cases ho
        cases hd
        have e0 : a'.tmps.getD 60 undef = .tuple #[.agg #[.int .i64 0, .bool false, .int .i64 0, .string ⟨#[]⟩, .string ⟨#[]⟩, .string ⟨#[]⟩, .slice none 0 0], .int .i64 ex] := hdep 16 60 rfl (by kernel_rfl)
        have e0' : a'.tmps[60]?.getD undef = .tuple #[.agg #[.int .i64 0, .bool false, .int .i64 0, .string ⟨#[]⟩, .string ⟨#[]⟩, .string ⟨#[]⟩, .slice none 0 0], .int .i64 ex] := by simpa using e0
        clear ax0' ax1' ax2' ax3' ax4' ax5' ax6' ay0' ay1' ay2' ay3' ay4' ay5' ay6'
        unfold Oper.wp
        go_simp
        exact hK _ _ rfl (GM.step (fun _ _ _ _ _ => trivial) hRR (Below.refl _ _) 17 77 _ (by decide) (by decide) (by decide)) (fun _ _ h => h)
      · cases ho
        cases hd
        have e0 : a'.tmps.getD 60 undef = .tuple #[.agg #[.int .i64 0, .bool false, .int .i64 0, .string ⟨#[]⟩, .string ⟨#[]⟩, .string ⟨#[]⟩, .slice none 0 0], .int .i64 ex] := hdep 16 60 rfl (by kernel_rfl)
        have e0' : a'.tmps[60]?.getD undef = .tuple #[.agg #[.int .i64 0, .bool false, .int .i64 0, .string ⟨#[]⟩, .string ⟨#[]⟩, .string ⟨#[]⟩, .slice none 0 0], .int .i64 ex] := by simpa using e0
        clear ax0' ax1' ax2' ax3' ax4' ax5' ax6' ay0' ay1' ay2' ay3' ay4' ay5' ay6'
        unfold Oper.wp
        go_simp
        exact hK _ _ rfl (GM.step (fun _ _ _ _ _ => trivial) hRR (Below.refl _ _) 18 78 _ (by decide) (by decide) (by decide)) (fun _ _ h => h)
      · cases ho
        cases hd
        clear ax0' ax1' ax2' ax3' ax4' ax5' ax6' ay0' ay1' ay2' ay3' ay4' ay5' ay6'
        unfold Oper.wp
        go_simp
        exact hK _ _ trivial (hRR.alloc (by decide) hL (by rw [hsz]; first | decide | simp)) (SpS.up (ev1 _ _))
      · cases hd
      · cases ho
        cases hd
        have e0 : a'.tmps.getD 78 undef = .int .i64 ex := hdep 18 78 rfl (by kernel_rfl)
        have e0' : a'.tmps[78]?.getD undef = .int .i64 ex := by simpa using e0
        clear ax0' ax1' ax2' ax3' ax4' ax5' ax6' ay0' ay1' ay2' ay3' ay4' ay5' ay6'
        unfold Oper.wp
        go_simp
        exact hK _ _ rfl (GM.step (fun _ _ _ _ _ => trivial) hRR (Below.refl _ _) 21 17 _ (by decide) (by decide) (by decide)) (fun _ _ h => h)
    · intro q o ho hd L a' w' hL hw hRR hdep K hK
      have hqN : q < 22 := (List.getElem?_eq_some_iff.1 ho).1
      have hR := hRR.below
      have ax0' := (hR.cell (p := ⟨wC.heap.size, x * 7, none⟩) hBc).trans bx0
      have ay0' := (hR.cell (p := ⟨wC.heap.size, y * 7, none⟩) hBc).trans by_0
      have ax1' := (hR.cell (p := ⟨wC.heap.size, x * 7 + 1, none⟩) hBc).trans bx1
      have ay1' := (hR.cell (p := ⟨wC.heap.size, y * 7 + 1, none⟩) hBc).trans by_1
      have ax2' := (hR.cell (p := ⟨wC.heap.size, x * 7 + 2, none⟩) hBc).trans bx2
      have ay2' := (hR.cell (p := ⟨wC.heap.size, y * 7 + 2, none⟩) hBc).trans by_2
      have ax3' := (hR.cell (p := ⟨wC.heap.size, x * 7 + 3, none⟩) hBc).trans bx3
      have ay3' := (hR.cell (p := ⟨wC.heap.size, y * 7 + 3, none⟩) hBc).trans by_3
      have ax4' := (hR.cell (p := ⟨wC.heap.size, x * 7 + 4, none⟩) hBc).trans bx4
      have ay4' := (hR.cell (p := ⟨wC.heap.size, y * 7 + 4, none⟩) hBc).trans by_4
      have ax5' := (hR.cell (p := ⟨wC.heap.size, x * 7 + 5, none⟩) hBc).trans bx5
      have ay5' := (hR.cell (p := ⟨wC.heap.size, y * 7 + 5, none⟩) hBc).trans by_5
      have ax6' := (hR.cell (p := ⟨wC.heap.size, x * 7 + 6, none⟩) hBc).trans bx6
      have ay6' := (hR.cell (p := ⟨wC.heap.size, y * 7 + 6, none⟩) hBc).trans by_6
      have hc : q = 0 ∨ q = 1 ∨ q = 2 ∨ q = 3 ∨ q = 4 ∨ q = 5 ∨ q = 6 ∨ q = 7 ∨ q = 8 ∨ q = 9 ∨ q = 10 ∨ q = 11 ∨ q = 12 ∨ q = 13 ∨ q = 14 ∨ q = 15 ∨ q = 16 ∨ q = 17 ∨ q = 18 ∨ q = 19 ∨ q = 20 ∨ q = 21 := by omega
      rcases hc with rfl | rfl | rfl | rfl | rfl | rfl | rfl | rfl | rfl | rfl | rfl | rfl | rfl | rfl | rfl | rfl | rfl | rfl | rfl | rfl | rfl | rfl
      · cases hd
      · cases hd
      · cases hd
      · cases hd
      · cases hd
      · cases hd
      · cases hd
      · cases hd
      · cases hd
      · cases hd
      · cases hd
      · cases hd
      · cases hd
      · cases hd
      · cases hd
      · cases hd
      · cases hd
      · cases hd
      · cases hd
      · cases hd
      · cases ho
        have e0 : a'.tmps.getD 77 undef = .agg #[.int .i64 0, .bool false, .int .i64 0, .string ⟨#[]⟩, .string ⟨#[]⟩, .string ⟨#[]⟩, .slice none 0 0] := hdep 17 77 rfl (by kernel_rfl)
        have e0' : a'.tmps[77]?.getD undef = .agg #[.int .i64 0, .bool false, .int .i64 0, .string ⟨#[]⟩, .string ⟨#[]⟩, .string ⟨#[]⟩, .slice none 0 0] := by simpa using e0
        clear ax0' ax1' ax2' ax3' ax4' ax5' ax6' ay0' ay1' ay2' ay3' ay4' ay5' ay6'
        obtain ⟨V, eV, hVle, hVz, hS⟩ := hRR.store (hw 19 (by kernel_rfl)) hL
        have d0 : w'.cell? ⟨V, 0, none⟩ = some (.int .i64 0) := by rw [Lib.cell_of_heap hVz]; rfl
        have d1 : w'.cell? ⟨V, 1, none⟩ = some (.bool false) := by rw [Lib.cell_of_heap hVz]; rfl
        have d2 : w'.cell? ⟨V, 2, none⟩ = some (.int .i64 0) := by rw [Lib.cell_of_heap hVz]; rfl
        have d3 : w'.cell? ⟨V, 3, none⟩ = some (.string ⟨#[]⟩) := by rw [Lib.cell_of_heap hVz]; rfl
        have d4 : w'.cell? ⟨V, 4, none⟩ = some (.string ⟨#[]⟩) := by rw [Lib.cell_of_heap hVz]; rfl
        have d5 : w'.cell? ⟨V, 5, none⟩ = some (.string ⟨#[]⟩) := by rw [Lib.cell_of_heap hVz]; rfl
        have d6 : w'.cell? ⟨V, 6, none⟩ = some (.slice none 0 0) := by rw [Lib.cell_of_heap hVz]; rfl
        have df : ∀ o, w'.frozen? ⟨V, o, none⟩ = false := fun o => Lib.frozen_of_heap hVz o
        have HP := hide (And.intro (hS _ (set7S_below hRR.below hVle (.int .i64 0) (.bool false) (.int .i64 0) (.string ⟨#[]⟩) (.string ⟨#[]⟩) (.string ⟨#[]⟩) (.slice none 0 0)) trivial) (SpS.kept 7 46 hVz rfl (fun k hk => set7S_heap w' V k (.int .i64 0) (.bool false) (.int .i64 0) (.string ⟨#[]⟩) (.string ⟨#[]⟩) (.string ⟨#[]⟩) (.slice none 0 0) hk) (l := [.eq (.agg #[.string ⟨#[]⟩, .string ⟨#[]⟩, .string ⟨#[]⟩, .string ⟨#[]⟩, .string ⟨#[]⟩, .string ⟨#[]⟩]), .eq (.slice (some ⟨wC.heap.size, 0, none⟩) 3 3), .eq (.int .i64 (x : Nat)), .eq (.pointer (some ⟨wC.heap.size, x * 7, none⟩)), .eq (.agg #[.int .i64 rx.k, .bool rx.b, .int .i64 rx.n, .string rx.s, .string rx.t, .string rx.i, .slice rx.lo rx.ll rx.lc]), .eq (.slice (some ⟨wC.heap.size, 0, none⟩) 3 3), .eq (.int .i64 (y : Nat)), .eq (.pointer (some ⟨wC.heap.size, y * 7, none⟩)), .eq (.agg #[.int .i64 ry.k, .bool ry.b, .int .i64 ry.n, .string ry.s, .string ry.t, .string ry.i, .slice ry.lo ry.ll ry.lc]), .eq (.slice (some ⟨wC.heap.size, 0, none⟩) 3 3), .eq (.int .i64 (y : Nat)), .eq (.pointer (some ⟨wC.heap.size, y * 7, none⟩)), .eq (.agg #[.int .i64 ry.k, .bool ry.b, .int .i64 ry.n, .string ry.s, .string ry.t, .string ry.i, .slice ry.lo ry.ll ry.lc]), .blk (0) (fun b => .slice (some ⟨b, 0, none⟩) 3 3) (.cells #[.int .i64 rx.k, .bool rx.b, .int .i64 rx.n, .string rx.s, .string rx.t, .string rx.i, .slice rx.lo rx.ll rx.lc, .int .i64 ry.k, .bool ry.b, .int .i64 ry.n, .string ry.s, .string ry.t, .string ry.i, .slice ry.lo ry.ll ry.lc, .int .i64 ry.k, .bool ry.b, .int .i64 ry.n, .string ry.s, .string ry.t, .string ry.i, .slice ry.lo ry.ll ry.lc] 42 (0, 0)), .blk (0) (fun b => .agg #[.int .i64 25, .bool false, .int .i64 0, .string ⟨#[]⟩, .string ⟨#[]⟩, .string ⟨#[]⟩, .slice (some ⟨b, 0, none⟩) 3 3]) (.cells #[.int .i64 rx.k, .bool rx.b, .int .i64 rx.n, .string rx.s, .string rx.t, .string rx.i, .slice rx.lo rx.ll rx.lc, .int .i64 ry.k, .bool ry.b, .int .i64 ry.n, .string ry.s, .string ry.t, .string ry.i, .slice ry.lo ry.ll ry.lc, .int .i64 ry.k, .bool ry.b, .int .i64 ry.n, .string ry.s, .string ry.t, .string ry.i, .slice ry.lo ry.ll ry.lc] 42 (0, 0)), .eq (.tuple #[.agg #[.int .i64 0, .bool false, .int .i64 0, .string ⟨#[]⟩, .string ⟨#[]⟩, .string ⟨#[]⟩, .slice none 0 0], .int .i64 ex]), .eq (.tuple #[.agg #[.int .i64 0, .bool false, .int .i64 0, .string ⟨#[]⟩, .string ⟨#[]⟩, .string ⟨#[]⟩, .slice none 0 0], .int .i64 ex]), .eq (.agg #[.int .i64 0, .bool false, .int .i64 0, .string ⟨#[]⟩, .string ⟨#[]⟩, .string ⟨#[]⟩, .slice none 0 0]), .eq (.int .i64 ex), .any, .any, .eq (.int .i64 ex)]) rfl))
        have e1 := eV
        clear hVz hS
        unfold Oper.wp
        go_simp
        exact hK _ (unhide HP).1 (unhide HP).2 undef
      · cases hd
    · intro v L w' hLa hRR hv
      have bE := hRR.below
      obtain ⟨V, eV, hVle, hVF⟩ := hRR.full (hLa 20 (by decide))
      have f0 : v 0 = .agg #[.string ⟨#[]⟩, .string ⟨#[]⟩, .string ⟨#[]⟩, .string ⟨#[]⟩, .string ⟨#[]⟩, .string ⟨#[]⟩] := (hv 0 61 rfl).1
      have f1 : v 1 = .slice (some ⟨wC.heap.size, 0, none⟩) 3 3 := (hv 1 62 rfl).1
      have f2 : v 2 = .int .i64 (x : Nat) := (hv 2 63 rfl).1
      have f3 : v 3 = .pointer (some ⟨wC.heap.size, x * 7, none⟩) := (hv 3 64 rfl).1
      have f4 : v 4 = .agg #[.int .i64 rx.k, .bool rx.b, .int .i64 rx.n, .string rx.s, .string rx.t, .string rx.i, .slice rx.lo rx.ll rx.lc] := (hv 4 65 rfl).1
      have f5 : v 5 = .slice (some ⟨wC.heap.size, 0, none⟩) 3 3 := (hv 5 66 rfl).1
      have f6 : v 6 = .int .i64 (y : Nat) := (hv 6 67 rfl).1
      have f7 : v 7 = .pointer (some ⟨wC.heap.size, y * 7, none⟩) := (hv 7 68 rfl).1
      have f8 : v 8 = .agg #[.int .i64 ry.k, .bool ry.b, .int .i64 ry.n, .string ry.s, .string ry.t, .string ry.i, .slice ry.lo ry.ll ry.lc] := (hv 8 69 rfl).1
      have f9 : v 9 = .slice (some ⟨wC.heap.size, 0, none⟩) 3 3 := (hv 9 70 rfl).1
      have f10 : v 10 = .int .i64 (y : Nat) := (hv 10 71 rfl).1
      have f11 : v 11 = .pointer (some ⟨wC.heap.size, y * 7, none⟩) := (hv 11 72 rfl).1
      have f12 : v 12 = .agg #[.int .i64 ry.k, .bool ry.b, .int .i64 ry.n, .string ry.s, .string ry.t, .string ry.i, .slice ry.lo ry.ll ry.lc] := (hv 12 73 rfl).1
      have f15 : v 15 = .tuple #[.agg #[.int .i64 0, .bool false, .int .i64 0, .string ⟨#[]⟩, .string ⟨#[]⟩, .string ⟨#[]⟩, .slice none 0 0], .int .i64 ex] := (hv 15 76 rfl).1
      have f16 : v 16 = .tuple #[.agg #[.int .i64 0, .bool false, .int .i64 0, .string ⟨#[]⟩, .string ⟨#[]⟩, .string ⟨#[]⟩, .slice none 0 0], .int .i64 ex] := (hv 16 60 rfl).1
      have f17 : v 17 = .agg #[.int .i64 0, .bool false, .int .i64 0, .string ⟨#[]⟩, .string ⟨#[]⟩, .string ⟨#[]⟩, .slice none 0 0] := (hv 17 77 rfl).1
      have f18 : v 18 = .int .i64 ex := (hv 18 78 rfl).1
      have f21 : v 21 = .int .i64 ex := (hv 21 17 rfl).1
      obtain ⟨b13, hB13, f13, ho13⟩ : (.blk (0) (fun b => .slice (some ⟨b, 0, none⟩) 3 3) (.cells #[.int .i64 rx.k, .bool rx.b, .int .i64 rx.n, .string rx.s, .string rx.t, .string rx.i, .slice rx.lo rx.ll rx.lc, .int .i64 ry.k, .bool ry.b, .int .i64 ry.n, .string ry.s, .string ry.t, .string ry.i, .slice ry.lo ry.ll ry.lc, .int .i64 ry.k, .bool ry.b, .int .i64 ry.n, .string ry.s, .string ry.t, .string ry.i, .slice ry.lo ry.ll ry.lc] 42 (0, 0)) : Sv).sp (v 13) w' := (hv 13 74 rfl).1
      obtain ⟨b14, hB14, f14, ho14⟩ : (.blk (0) (fun b => .agg #[.int .i64 25, .bool false, .int .i64 0, .string ⟨#[]⟩, .string ⟨#[]⟩, .string ⟨#[]⟩, .slice (some ⟨b, 0, none⟩) 3 3]) (.cells #[.int .i64 rx.k, .bool rx.b, .int .i64 rx.n, .string rx.s, .string rx.t, .string rx.i, .slice rx.lo rx.ll rx.lc, .int .i64 ry.k, .bool ry.b, .int .i64 ry.n, .string ry.s, .string ry.t, .string ry.i, .slice ry.lo ry.ll ry.lc, .int .i64 ry.k, .bool ry.b, .int .i64 ry.n, .string ry.s, .string ry.t, .string ry.i, .slice ry.lo ry.ll ry.lc] 42 (0, 0)) : Sv).sp (v 14) w' := (hv 14 75 rfl).1
      have f19 : v 19 = .pointer (some ⟨V, 0, none⟩) := ((hv 19 16 rfl).2).symm.trans eV
      clear eV
      clear hRR hv hLa
      simp only [putAll, dstOf, List.getElem?_cons_zero, List.getElem?_cons_succ, Option.bind_some, List.length_cons, List.length_nil, f0, f1, f2, f3, f4, f5, f6, f7, f8, f9, f10, f11, f12, f13, f14, f15, f16, f17, f18, f19, f21]
      clear f0 f1 f2 f3 f4 f5 f6 f7 f8 f9 f10 f11 f12 f13 f14 f15 f16 f17 f18 f19 f21
      simp only [Act.put, List.setIfInBounds_toArray, List.set_cons_succ, List.set_cons_zero]
      generalize v 20 = vv20
      have b10 := b9.trans (bE.mono b9.size)
      obtain ⟨wG, hwG⟩ : ∃ q, q = w' := ⟨_, rfl⟩
      subst hwG
      clear ho13 ho14
      have cy0 := (b10.cell (p := ⟨wC.heap.size, y * 7, none⟩) hBb).trans ay0
      have cy1 := (b10.cell (p := ⟨wC.heap.size, y * 7 + 1, none⟩) hBb).trans ay1
      have cy2 := (b10.cell (p := ⟨wC.heap.size, y * 7 + 2, none⟩) hBb).trans ay2
      have cy3 := (b10.cell (p := ⟨wC.heap.size, y * 7 + 3, none⟩) hBb).trans ay3
      have cy4 := (b10.cell (p := ⟨wC.heap.size, y * 7 + 4, none⟩) hBb).trans ay4
      have cy5 := (b10.cell (p := ⟨wC.heap.size, y * 7 + 5, none⟩) hBb).trans ay5
      have cy6 := (b10.cell (p := ⟨wC.heap.size, y * 7 + 6, none⟩) hBb).trans ay6
      have b11 := ev1 wG (.cells #[.int .i64 1, .bool true, .int .i64 0, .string ⟨#[]⟩, .string ⟨#[]⟩, .string ⟨#[]⟩, .slice none 0 0, .int .i64 ry.k, .bool ry.b, .int .i64 ry.n, .string ry.s, .string ry.t, .string ry.i, .slice ry.lo ry.ll ry.lc] 42)
      have h11 := alloc_heap wG (.cells #[.int .i64 1, .bool true, .int .i64 0, .string ⟨#[]⟩, .string ⟨#[]⟩, .string ⟨#[]⟩, .slice none 0 0, .int .i64 ry.k, .bool ry.b, .int .i64 ry.n, .string ry.s, .string ry.t, .string ry.i, .slice ry.lo ry.ll ry.lc] 42)
      have C := CO3 _ wG.heap.size (b10.trans (b11.mono b10.size)) h11
      clear CO1 CO2 CO3 h11
      go_wp2_with fail
      refine C.mono ?_
      clear C cy0 cy1 cy2 cy3 cy4 cy5 cy6
      rintro e9 wH ⟨rfl, b12⟩
      have b13 := ev1 wH (.cells #[.int .i64 0, .bool false, .int .i64 0, .string ⟨#[]⟩, .string ⟨#[]⟩, .string ⟨#[]⟩, .slice none 0 0] 46)
      have bF := b10.trans ((b11.trans ((b12.trans (b13.mono b12.size)).mono b11.size)).mono b10.size)
      have hE9 := kept_of_below bF hE
      have bZ := b05.trans (bF.mono b05.size)
      clear hE
      go_upto_region 12 with fail
      generalize wH.alloc _ = wI at *
      have cex : wI.cell? ⟨wC.heap.size + 1, x, none⟩ = some (.int .i64 ex) := by rw [Lib.cell_of_heap hE9]; exact unhide HEX
      have cey : wI.cell? ⟨wC.heap.size + 1, y, none⟩ = some (.int .i64 ey) := by rw [Lib.cell_of_heap hE9]; exact unhide HEY
      have exx : (ex == ex) = true := by simp
      have eyy : (ey == ey) = true := by simp
      clear hE9
      go_wp2
      go_ret
      exact ⟨rfl, bZ⟩
end Go.Proofs.YtonfanfggfjbdaaGreat
