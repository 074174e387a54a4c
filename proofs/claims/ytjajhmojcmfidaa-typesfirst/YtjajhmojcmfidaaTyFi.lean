/-
  chancellaw11.TypesFirst: the walk.
-/
import Derived.Test.YtjajhmojcmfidaaTyRK
namespace Go.Proofs.Ytjajhmojcmfidaa
open Go.RowKit Go.Sort

def badX : List Ex := [eUid [78, 111, 112, 101] [120], eOp 11 [eLong 0], eOp 6 [], eUid [65, 99, 116, 105, 111, 110] [110, 111, 112, 101]]
def badN : List Int := [15, 16, 16, 15]
theorem bad_err : ∀ x (h : x < 4), (typE noS ⟨#[]⟩ ⟨#[]⟩ (badX[x]'h)).2 = badN[x]'h ∧ depE (badX[x]'h) ≤ 3 ∧ slE (badX[x]'h) = true ∧ badN[x]'h ≠ 0
  | 0, _ => ⟨by kernel_rfl, show depE (eUid [78, 111, 112, 101] [120]) ≤ 3 by decide, rfl, show (15 : Int) ≠ 0 by decide⟩
  | 1, _ => ⟨by kernel_rfl, show depE (eOp 11 [eLong 0]) ≤ 3 by decide, rfl, show (16 : Int) ≠ 0 by decide⟩
  | 2, _ => ⟨by kernel_rfl, show depE (eOp 6 []) ≤ 3 by decide, rfl, show (16 : Int) ≠ 0 by decide⟩
  | 3, _ => ⟨by kernel_rfl, show depE (eUid [65, 99, 116, 105, 111, 110] [110, 111, 112, 101]) ≤ 3 by decide, rfl, show (15 : Int) ≠ 0 by decide⟩
/-- What is wrong with the first kid that errs is told. -/
theorem typE_bad {k : Int} {b : Bool} {n : Int} {s t i : List UInt8} {x y : Ex} {e : Int} (h : (typE noS ⟨#[]⟩ ⟨#[]⟩ x).2 = e) (h0 : e ≠ 0) : typE noS ⟨#[]⟩ ⟨#[]⟩ (.mk k b n s t i [x, y]) = (⟨0, 0, ⟨#[]⟩⟩, e) := by
  rw [typE_mk, typL, if_neg (by rw [h]; exact h0), h]
  rfl
theorem typE_bad2 {x y : Ex} {e : Int} (h : (typE noS ⟨#[]⟩ ⟨#[]⟩ x).2 = e) (h0 : e ≠ 0) : typE noS ⟨#[]⟩ ⟨#[]⟩ (.mk 6 false 0 [] [] [] [eLong 0, x, y]) = (⟨0, 0, ⟨#[]⟩⟩, e) := by
  rw [typE_mk, typL, if_pos (by kernel_rfl), typL, if_neg (by rw [h]; exact h0), h]
  rfl
set_option maxHeartbeats 8000000 in
set_option maxRecDepth 1000000 in
theorem first_walk (a c n : Int) (w : World) : Calls Try.prog 8 #[.int .i64 a, .int .i64 c, .int .i64 n] w fun e w' => e = .returned (.bool true) ∧ Below w.heap.size w w' := by
  have C0 := known11_any w
  obtain ⟨x, hx⟩ : ∃ x : Nat, (x : Int) = a % 4 := ⟨(a % 4).toNat, by omega⟩
  obtain ⟨y, hy⟩ : ∃ y : Nat, (y : Int) = c % 4 := ⟨(c % 4).toNat, by omega⟩
  obtain ⟨m, hm⟩ : ∃ m : Nat, (m : Int) = n % 12 := ⟨(n % 12).toNat, by omega⟩
  have CA := fun w' => within11_any a 4 (by decide) (by decide) w'
  have CB := fun w' => within11_any c 4 (by decide) (by decide) w'
  have CW := fun w' => within11_any n 12 (by decide) (by decide) w'
  rw [← hx] at CA
  rw [← hy] at CB
  rw [← hm] at CW
  have hx4 : x < 4 := by omega
  have hy4 : y < 4 := by omega
  have hm12 : m < 12 := by omega
  clear hx hy hm
  have x0 : (0 : Int) ≤ (x : Int) := by omega
  have x1 : (x : Int) < 4 := by omega
  have y0 : (0 : Int) ≤ (y : Int) := by omega
  have y1 : (y : Int) < 4 := by omega
  have wr13 : IntKind.i64.wrap (13 + (m : Int)) = 13 + (m : Int) := by
    have h1 : (0 : Int) ≤ 13 + (m : Int) := by omega
    have h2 : 13 + (m : Int) < 9223372036854775808 := by omega
    simp [IntKind.wrap, IntKind.signed, IntKind.bits]
    omega
  go_enter Try.func8, Try.ntmps8
  go_wp2_with fail
  refine C0.mono ?_
  clear C0
  rintro e9 w2 ⟨rfl, b02⟩
  obtain ⟨bX, zX, k1, k2, k3⟩ := alloc3 w2 (.cells #[.int .i64 2, .bool false, .int .i64 0, .string ⟨#[]⟩, .string ⟨#[]⟩, .string ⟨#[]⟩, .slice none 0 0] 39) (.cells #[.int .i64 4, .bool false, .int .i64 0, .string ⟨#[]⟩, .string ⟨#[78, 111, 112, 101]⟩, .string ⟨#[120]⟩, .slice none 0 0, .int .i64 11, .bool false, .int .i64 0, .string ⟨#[]⟩, .string ⟨#[]⟩, .string ⟨#[]⟩, .slice (some ⟨w2.heap.size, 0, none⟩) 1 1, .int .i64 6, .bool false, .int .i64 0, .string ⟨#[]⟩, .string ⟨#[]⟩, .string ⟨#[]⟩, .slice none 0 0, .int .i64 4, .bool false, .int .i64 0, .string ⟨#[]⟩, .string ⟨#[65, 99, 116, 105, 111, 110]⟩, .string ⟨#[110, 111, 112, 101]⟩, .slice none 0 0] 39) (.cells #[.int .i64 15, .int .i64 16, .int .i64 16, .int .i64 15] 57)
  have b05 := b02.trans (bX.mono b02.size)
  go_wp2_with fail
  refine (CA _).mono ?_
  rintro e9 w9 ⟨rfl, hw9⟩
  subst hw9
  go_wp2_with fail
  refine (CB _).mono ?_
  rintro e9 w9 ⟨rfl, hw9⟩
  subst hw9
  go_upto_region 6 with fail
  generalize ((w2.alloc _).alloc _).alloc _ = w5 at *
  clear CA CB
  have hE := k3
  have hBb : w2.heap.size + 1 < w5.heap.size := (Array.getElem?_eq_some_iff.1 k2).1
  have hall : AllX w5 [⟨4, false, 0, ⟨#[]⟩, ⟨#[78, 111, 112, 101]⟩, ⟨#[120]⟩, none, 0, 0⟩, ⟨11, false, 0, ⟨#[]⟩, ⟨#[]⟩, ⟨#[]⟩, some ⟨w2.heap.size, 0, none⟩, 1, 1⟩, ⟨6, false, 0, ⟨#[]⟩, ⟨#[]⟩, ⟨#[]⟩, none, 0, 0⟩, ⟨4, false, 0, ⟨#[]⟩, ⟨#[65, 99, 116, 105, 111, 110]⟩, ⟨#[110, 111, 112, 101]⟩, none, 0, 0⟩] badX :=
    .cons (isE_leaf _ 4 false 0 [] [78, 111, 112, 101] [120] 0 none) (.cons (isE_node (s := []) (t := []) (i := []) rfl (isEs_block [⟨2, false, 0, ⟨#[]⟩, ⟨#[]⟩, ⟨#[]⟩, none, 0, 0⟩] [eLong 0] k1 rfl (.cons (isE_leaf _ 2 false 0 [] [] [] 0 none) .nil))) (.cons (isE_leaf _ 6 false 0 [] [] [] 0 none) (.cons (isE_leaf _ 4 false 0 [] [65, 99, 116, 105, 111, 110] [110, 111, 112, 101] 0 none) .nil)))
  have hat := at7_block _ k2 (show _ = cellsE [⟨4, false, 0, ⟨#[]⟩, ⟨#[78, 111, 112, 101]⟩, ⟨#[120]⟩, none, 0, 0⟩, ⟨11, false, 0, ⟨#[]⟩, ⟨#[]⟩, ⟨#[]⟩, some ⟨w2.heap.size, 0, none⟩, 1, 1⟩, ⟨6, false, 0, ⟨#[]⟩, ⟨#[]⟩, ⟨#[]⟩, none, 0, 0⟩, ⟨4, false, 0, ⟨#[]⟩, ⟨#[65, 99, 116, 105, 111, 110]⟩, ⟨#[110, 111, 112, 101]⟩, none, 0, 0⟩] from rfl)
  generalize hrs : [(⟨4, false, 0, ⟨#[]⟩, ⟨#[78, 111, 112, 101]⟩, ⟨#[120]⟩, none, 0, 0⟩ : R7), ⟨11, false, 0, ⟨#[]⟩, ⟨#[]⟩, ⟨#[]⟩, some ⟨w2.heap.size, 0, none⟩, 1, 1⟩, ⟨6, false, 0, ⟨#[]⟩, ⟨#[]⟩, ⟨#[]⟩, none, 0, 0⟩, ⟨4, false, 0, ⟨#[]⟩, ⟨#[65, 99, 116, 105, 111, 110]⟩, ⟨#[110, 111, 112, 101]⟩, none, 0, 0⟩] = rs at *
  have hl : rs.length = 4 := by rw [← hrs]; rfl
  clear hrs
  have hxE := hall.get x (by omega) hx4
  have hyE := hall.get y (by omega) hy4
  obtain ⟨ax0, ax1, ax2, ax3, ax4, ax5, ax6⟩ := hat x (by omega)
  obtain ⟨ay0, ay1, ay2, ay3, ay4, ay5, ay6⟩ := hat y (by omega)
  have hbx := bad_err x hx4
  have hby := bad_err y hy4
  have HEX := hide (show (#[Value.int .i64 15, .int .i64 16, .int .i64 16, .int .i64 15] : Array Value)[x]? = some (.int .i64 (badN[x]'hx4)) from by
    match x, hx4 with
    | 0, _ | 1, _ | 2, _ | 3, _ => rfl)
  clear hat hall
  generalize rs[x]'(by omega) = rx at *
  generalize rs[y]'(by omega) = ry at *
  generalize badX[x]'hx4 = tx at *
  generalize badX[y]'hy4 = ty at *
  generalize badN[x]'hx4 = ex at *
  have CO1 := fun (w' : World) (b : Nat) (hb : Below w5.heap.size w5 w') (ho : w'.heap[b]? = some (.cells #[.int .i64 rx.k, .bool rx.b, .int .i64 rx.n, .string rx.s, .string rx.t, .string rx.i, .slice rx.lo rx.ll rx.lc, .int .i64 ry.k, .bool ry.b, .int .i64 ry.n, .string ry.s, .string ry.t, .string ry.i, .slice ry.lo ry.ll ry.lc] 39 (0, 0))) => yOf_any noS ⟨#[]⟩ ⟨#[]⟩ ⟨#[]⟩ sm_no 5 (.mk (13 + (m : Int)) false 0 [] [] [] [tx, ty]) (by unfold depE depL depL depL; have := hbx.2.1; have := hby.2.1; omega) (by rw [slE, slL, slL, slL, hbx.2.2.1, hby.2.2.1]; rfl) _ ⟨13 + (m : Int), false, 0, ⟨#[]⟩, ⟨#[]⟩, ⟨#[]⟩, some ⟨b, 0, none⟩, 2, 2⟩ w' (isS_no _) (isE_node (s := []) (t := []) (i := []) rfl (isEs_block [rx, ry] [tx, ty] ho rfl (.cons (hxE.lift hb) (.cons (hyE.lift hb) .nil))))
  have CO2 := fun (w' : World) (b : Nat) (hb : Below w5.heap.size w5 w') (ho : w'.heap[b]? = some (.cells #[.int .i64 2, .bool false, .int .i64 0, .string ⟨#[]⟩, .string ⟨#[]⟩, .string ⟨#[]⟩, .slice none 0 0, .int .i64 rx.k, .bool rx.b, .int .i64 rx.n, .string rx.s, .string rx.t, .string rx.i, .slice rx.lo rx.ll rx.lc, .int .i64 ry.k, .bool ry.b, .int .i64 ry.n, .string ry.s, .string ry.t, .string ry.i, .slice ry.lo ry.ll ry.lc] 39 (0, 0))) => yOf_any noS ⟨#[]⟩ ⟨#[]⟩ ⟨#[]⟩ sm_no 5 (.mk 6 false 0 [] [] [] [eLong 0, tx, ty]) (by unfold depE depL depL depL depL; have := hbx.2.1; have := hby.2.1; have : depE (eLong 0) = 1 := rfl; omega) (by rw [slE, slL, slL, slL, slL, hbx.2.2.1, hby.2.2.1]; rfl) _ ⟨6, false, 0, ⟨#[]⟩, ⟨#[]⟩, ⟨#[]⟩, some ⟨b, 0, none⟩, 3, 3⟩ w' (isS_no _) (isE_node (s := []) (t := []) (i := []) rfl (isEs_block [⟨2, false, 0, ⟨#[]⟩, ⟨#[]⟩, ⟨#[]⟩, none, 0, 0⟩, rx, ry] [eLong 0, tx, ty] ho rfl (.cons (isE_leaf _ 2 false 0 [] [] [] 0 none) (.cons (hxE.lift hb) (.cons (hyE.lift hb) .nil)))))
  rw [typE_bad hbx.1 hbx.2.2.2] at CO1
  rw [typE_bad2 hbx.1 hbx.2.2.2] at CO2
  unfold TR.ret at CO1 CO2
  simp only at CO1 CO2
  clear hxE hyE hbx hby hl k1 k2 k3 zX
  refine wp_specsD (SpS [.eq (.int .i64 n), .eq (.int .i64 (m : Nat)), .eq (.int .i64 (13 + (m : Int))), .eq (.slice (some ⟨w2.heap.size + 1, 0, none⟩) 4 4), .eq (.int .i64 (x : Nat)), .eq (.pointer (some ⟨w2.heap.size + 1, x * 7, none⟩)), .eq (.agg #[.int .i64 rx.k, .bool rx.b, .int .i64 rx.n, .string rx.s, .string rx.t, .string rx.i, .slice rx.lo rx.ll rx.lc]), .eq (.slice (some ⟨w2.heap.size + 1, 0, none⟩) 4 4), .eq (.int .i64 (y : Nat)), .eq (.pointer (some ⟨w2.heap.size + 1, y * 7, none⟩)), .eq (.agg #[.int .i64 ry.k, .bool ry.b, .int .i64 ry.n, .string ry.s, .string ry.t, .string ry.i, .slice ry.lo ry.ll ry.lc]), .blk (0) (fun b => .slice (some ⟨b, 0, none⟩) 2 2) (.cells #[.int .i64 rx.k, .bool rx.b, .int .i64 rx.n, .string rx.s, .string rx.t, .string rx.i, .slice rx.lo rx.ll rx.lc, .int .i64 ry.k, .bool ry.b, .int .i64 ry.n, .string ry.s, .string ry.t, .string ry.i, .slice ry.lo ry.ll ry.lc] 39 (0, 0)), .blk (0) (fun b => .agg #[.int .i64 (13 + (m : Int)), .bool false, .int .i64 0, .string ⟨#[]⟩, .string ⟨#[]⟩, .string ⟨#[]⟩, .slice (some ⟨b, 0, none⟩) 2 2]) (.cells #[.int .i64 rx.k, .bool rx.b, .int .i64 rx.n, .string rx.s, .string rx.t, .string rx.i, .slice rx.lo rx.ll rx.lc, .int .i64 ry.k, .bool ry.b, .int .i64 ry.n, .string ry.s, .string ry.t, .string ry.i, .slice ry.lo ry.ll ry.lc] 39 (0, 0)), .any, .any]) (GM 13 14 11 w5 #[.int .i64 0, .bool false, .int .i64 0, .string ⟨#[]⟩, .string ⟨#[]⟩, .string ⟨#[]⟩, .slice none 0 0] 39 (fun V w => ∃ b, w.heap[V]? = some (.cells #[.int .i64 (13 + (m : Int)), .bool false, .int .i64 0, .string ⟨#[]⟩, .string ⟨#[]⟩, .string ⟨#[]⟩, .slice (some ⟨b, 0, none⟩) 2 2] 39 (0, 0)) ∧ w.heap[b]? = some (.cells #[.int .i64 rx.k, .bool rx.b, .int .i64 rx.n, .string rx.s, .string rx.t, .string rx.i, .slice rx.lo rx.ll rx.lc, .int .i64 ry.k, .bool ry.b, .int .i64 ry.n, .string ry.s, .string ry.t, .string ry.i, .slice ry.lo ry.ll ry.lc] 39 (0, 0)))) (by kernel_rfl) (by kernel_rfl) (by kernel_rfl) (GM.start _ w5) ?_ ?_ ?_
  · intro q o d ho hd L a' w' hL hw hRR hdep hslot hsz K hK
    have hqN : q < 15 := dstOf_lt hd
    have hR := hRR.below
    have ax0' := (hR.cell (p := ⟨w2.heap.size + 1, x * 7, none⟩) hBb).trans ax0
    have ay0' := (hR.cell (p := ⟨w2.heap.size + 1, y * 7, none⟩) hBb).trans ay0
    have ax1' := (hR.cell (p := ⟨w2.heap.size + 1, x * 7 + 1, none⟩) hBb).trans ax1
    have ay1' := (hR.cell (p := ⟨w2.heap.size + 1, y * 7 + 1, none⟩) hBb).trans ay1
    have ax2' := (hR.cell (p := ⟨w2.heap.size + 1, x * 7 + 2, none⟩) hBb).trans ax2
    have ay2' := (hR.cell (p := ⟨w2.heap.size + 1, y * 7 + 2, none⟩) hBb).trans ay2
    have ax3' := (hR.cell (p := ⟨w2.heap.size + 1, x * 7 + 3, none⟩) hBb).trans ax3
    have ay3' := (hR.cell (p := ⟨w2.heap.size + 1, y * 7 + 3, none⟩) hBb).trans ay3
    have ax4' := (hR.cell (p := ⟨w2.heap.size + 1, x * 7 + 4, none⟩) hBb).trans ax4
    have ay4' := (hR.cell (p := ⟨w2.heap.size + 1, y * 7 + 4, none⟩) hBb).trans ay4
    have ax5' := (hR.cell (p := ⟨w2.heap.size + 1, x * 7 + 5, none⟩) hBb).trans ax5
    have ay5' := (hR.cell (p := ⟨w2.heap.size + 1, y * 7 + 5, none⟩) hBb).trans ay5
    have ax6' := (hR.cell (p := ⟨w2.heap.size + 1, x * 7 + 6, none⟩) hBb).trans ax6
    have ay6' := (hR.cell (p := ⟨w2.heap.size + 1, y * 7 + 6, none⟩) hBb).trans ay6
    have hs2 : a'.tmps.getD 2 undef = .int .i64 n := hslot 2 (fun q h => by have hl := dstOf_lt h; match q, hl with | 0, _ => cases h | 1, _ => cases h | 2, _ => cases h | 3, _ => cases h | 4, _ => cases h | 5, _ => cases h | 6, _ => cases h | 7, _ => cases h | 8, _ => cases h | 9, _ => cases h | 10, _ => cases h | 11, _ => cases h | 12, _ => cases h | 13, _ => cases h | 14, _ => cases h)
    have hs7 : a'.tmps.getD 7 undef = .slice (some ⟨w2.heap.size + 1, 0, none⟩) 4 4 := hslot 7 (fun q h => by have hl := dstOf_lt h; match q, hl with | 0, _ => cases h | 1, _ => cases h | 2, _ => cases h | 3, _ => cases h | 4, _ => cases h | 5, _ => cases h | 6, _ => cases h | 7, _ => cases h | 8, _ => cases h | 9, _ => cases h | 10, _ => cases h | 11, _ => cases h | 12, _ => cases h | 13, _ => cases h | 14, _ => cases h)
    have hs9 : a'.tmps.getD 9 undef = .int .i64 (x : Nat) := hslot 9 (fun q h => by have hl := dstOf_lt h; match q, hl with | 0, _ => cases h | 1, _ => cases h | 2, _ => cases h | 3, _ => cases h | 4, _ => cases h | 5, _ => cases h | 6, _ => cases h | 7, _ => cases h | 8, _ => cases h | 9, _ => cases h | 10, _ => cases h | 11, _ => cases h | 12, _ => cases h | 13, _ => cases h | 14, _ => cases h)
    have hs10 : a'.tmps.getD 10 undef = .int .i64 (y : Nat) := hslot 10 (fun q h => by have hl := dstOf_lt h; match q, hl with | 0, _ => cases h | 1, _ => cases h | 2, _ => cases h | 3, _ => cases h | 4, _ => cases h | 5, _ => cases h | 6, _ => cases h | 7, _ => cases h | 8, _ => cases h | 9, _ => cases h | 10, _ => cases h | 11, _ => cases h | 12, _ => cases h | 13, _ => cases h | 14, _ => cases h)
    have hc : q = 0 ∨ q = 1 ∨ q = 2 ∨ q = 3 ∨ q = 4 ∨ q = 5 ∨ q = 6 ∨ q = 7 ∨ q = 8 ∨ q = 9 ∨ q = 10 ∨ q = 11 ∨ q = 12 ∨ q = 13 ∨ q = 14 := by omega
    rcases hc with rfl | rfl | rfl | rfl | rfl | rfl | rfl | rfl | rfl | rfl | rfl | rfl | rfl | rfl | rfl
    · cases ho
      cases hd
      have e0 := hs2
      clear ax0' ax1' ax2' ax3' ax4' ax5' ax6' ay0' ay1' ay2' ay3' ay4' ay5' ay6'
      unfold Oper.wp
      go_simp
      exact hK _ _ rfl (GM.step (fun _ _ _ hb ⟨b, h1, h2⟩ => ⟨b, kept_of_below hb h1, kept_of_below hb h2⟩) hRR (Below.refl _ _) 0 32 _ (by decide) (by decide) (by decide)) (fun _ _ h => h)
    · cases ho
      cases hd
      have e0 : a'.tmps.getD 32 undef = .int .i64 n := hdep 0 32 rfl (by kernel_rfl)
      have e0' : a'.tmps[32]?.getD undef = .int .i64 n := by simpa using e0
      clear ax0' ax1' ax2' ax3' ax4' ax5' ax6' ay0' ay1' ay2' ay3' ay4' ay5' ay6'
      unfold Oper.wp
      go_simp
      refine (CW w').mono ?_
      rintro e w9 ⟨rfl, hw9⟩
      subst hw9
      exact hK _ _ rfl (GM.step (fun _ _ _ hb ⟨b, h1, h2⟩ => ⟨b, kept_of_below hb h1, kept_of_below hb h2⟩) hRR (Below.refl _ _) 1 33 _ (by decide) (by decide) (by decide)) (fun _ _ h => h)
    · cases ho
      cases hd
      have e0 : a'.tmps.getD 33 undef = .int .i64 (m : Nat) := hdep 1 33 rfl (by kernel_rfl)
      have e0' : a'.tmps[33]?.getD undef = .int .i64 (m : Nat) := by simpa using e0
      clear ax0' ax1' ax2' ax3' ax4' ax5' ax6' ay0' ay1' ay2' ay3' ay4' ay5' ay6'
      unfold Oper.wp
      go_simp
      exact hK _ _ rfl (GM.step (fun _ _ _ hb ⟨b, h1, h2⟩ => ⟨b, kept_of_below hb h1, kept_of_below hb h2⟩) hRR (Below.refl _ _) 2 34 _ (by decide) (by decide) (by decide)) (fun _ _ h => h)
    · cases ho
      cases hd
      have e0 := hs7
      clear ax0' ax1' ax2' ax3' ax4' ax5' ax6' ay0' ay1' ay2' ay3' ay4' ay5' ay6'
      unfold Oper.wp
      go_simp
      exact hK _ _ rfl (GM.step (fun _ _ _ hb ⟨b, h1, h2⟩ => ⟨b, kept_of_below hb h1, kept_of_below hb h2⟩) hRR (Below.refl _ _) 3 35 _ (by decide) (by decide) (by decide)) (fun _ _ h => h)
    · cases ho
      cases hd
      have e0 := hs9
      clear ax0' ax1' ax2' ax3' ax4' ax5' ax6' ay0' ay1' ay2' ay3' ay4' ay5' ay6'
      unfold Oper.wp
      go_simp
      exact hK _ _ rfl (GM.step (fun _ _ _ hb ⟨b, h1, h2⟩ => ⟨b, kept_of_below hb h1, kept_of_below hb h2⟩) hRR (Below.refl _ _) 4 36 _ (by decide) (by decide) (by decide)) (fun _ _ h => h)
    · cases ho
      cases hd
      have e0 : a'.tmps.getD 35 undef = .slice (some ⟨w2.heap.size + 1, 0, none⟩) 4 4 := hdep 3 35 rfl (by kernel_rfl)
      have e0' : a'.tmps[35]?.getD undef = .slice (some ⟨w2.heap.size + 1, 0, none⟩) 4 4 := by simpa using e0
      have e1 : a'.tmps.getD 36 undef = .int .i64 (x : Nat) := hdep 4 36 rfl (by kernel_rfl)
      have e1' : a'.tmps[36]?.getD undef = .int .i64 (x : Nat) := by simpa using e1
      clear ax0' ax1' ax2' ax3' ax4' ax5' ax6' ay0' ay1' ay2' ay3' ay4' ay5' ay6'
      unfold Oper.wp
      go_simp
      exact hK _ _ rfl (GM.step (fun _ _ _ hb ⟨b, h1, h2⟩ => ⟨b, kept_of_below hb h1, kept_of_below hb h2⟩) hRR (Below.refl _ _) 5 37 _ (by decide) (by decide) (by decide)) (fun _ _ h => h)
    · cases ho
      cases hd
      have e0 : a'.tmps.getD 37 undef = .pointer (some ⟨w2.heap.size + 1, x * 7, none⟩) := hdep 5 37 rfl (by kernel_rfl)
      have e0' : a'.tmps[37]?.getD undef = .pointer (some ⟨w2.heap.size + 1, x * 7, none⟩) := by simpa using e0
      clear ay0' ay1' ay2' ay3' ay4' ay5' ay6'
      unfold Oper.wp
      go_simp
      exact hK _ _ rfl (GM.step (fun _ _ _ hb ⟨b, h1, h2⟩ => ⟨b, kept_of_below hb h1, kept_of_below hb h2⟩) hRR (Below.refl _ _) 6 38 _ (by decide) (by decide) (by decide)) (fun _ _ h => h)
    · cases ho
      cases hd
      have e0 := hs7
      clear ax0' ax1' ax2' ax3' ax4' ax5' ax6' ay0' ay1' ay2' ay3' ay4' ay5' ay6'
      unfold Oper.wp
      go_simp
      exact hK _ _ rfl (GM.step (fun _ _ _ hb ⟨b, h1, h2⟩ => ⟨b, kept_of_below hb h1, kept_of_below hb h2⟩) hRR (Below.refl _ _) 7 39 _ (by decide) (by decide) (by decide)) (fun _ _ h => h)
    · cases ho
      cases hd
      have e0 := hs10
      clear ax0' ax1' ax2' ax3' ax4' ax5' ax6' ay0' ay1' ay2' ay3' ay4' ay5' ay6'
      unfold Oper.wp
      go_simp
      exact hK _ _ rfl (GM.step (fun _ _ _ hb ⟨b, h1, h2⟩ => ⟨b, kept_of_below hb h1, kept_of_below hb h2⟩) hRR (Below.refl _ _) 8 40 _ (by decide) (by decide) (by decide)) (fun _ _ h => h)
    · cases ho
      cases hd
      have e0 : a'.tmps.getD 39 undef = .slice (some ⟨w2.heap.size + 1, 0, none⟩) 4 4 := hdep 7 39 rfl (by kernel_rfl)
      have e0' : a'.tmps[39]?.getD undef = .slice (some ⟨w2.heap.size + 1, 0, none⟩) 4 4 := by simpa using e0
      have e1 : a'.tmps.getD 40 undef = .int .i64 (y : Nat) := hdep 8 40 rfl (by kernel_rfl)
      have e1' : a'.tmps[40]?.getD undef = .int .i64 (y : Nat) := by simpa using e1
      clear ax0' ax1' ax2' ax3' ax4' ax5' ax6' ay0' ay1' ay2' ay3' ay4' ay5' ay6'
      unfold Oper.wp
      go_simp
      exact hK _ _ rfl (GM.step (fun _ _ _ hb ⟨b, h1, h2⟩ => ⟨b, kept_of_below hb h1, kept_of_below hb h2⟩) hRR (Below.refl _ _) 9 41 _ (by decide) (by decide) (by decide)) (fun _ _ h => h)
    · cases ho
      cases hd
      have e0 : a'.tmps.getD 41 undef = .pointer (some ⟨w2.heap.size + 1, y * 7, none⟩) := hdep 9 41 rfl (by kernel_rfl)
      have e0' : a'.tmps[41]?.getD undef = .pointer (some ⟨w2.heap.size + 1, y * 7, none⟩) := by simpa using e0
      clear ax0' ax1' ax2' ax3' ax4' ax5' ax6'
      unfold Oper.wp
      go_simp
      exact hK _ _ rfl (GM.step (fun _ _ _ hb ⟨b, h1, h2⟩ => ⟨b, kept_of_below hb h1, kept_of_below hb h2⟩) hRR (Below.refl _ _) 10 42 _ (by decide) (by decide) (by decide)) (fun _ _ h => h)
    · cases ho
      cases hd
      have e0 : a'.tmps.getD 38 undef = .agg #[.int .i64 rx.k, .bool rx.b, .int .i64 rx.n, .string rx.s, .string rx.t, .string rx.i, .slice rx.lo rx.ll rx.lc] := hdep 6 38 rfl (by kernel_rfl)
      have e0' : a'.tmps[38]?.getD undef = .agg #[.int .i64 rx.k, .bool rx.b, .int .i64 rx.n, .string rx.s, .string rx.t, .string rx.i, .slice rx.lo rx.ll rx.lc] := by simpa using e0
      have e1 : a'.tmps.getD 42 undef = .agg #[.int .i64 ry.k, .bool ry.b, .int .i64 ry.n, .string ry.s, .string ry.t, .string ry.i, .slice ry.lo ry.ll ry.lc] := hdep 10 42 rfl (by kernel_rfl)
      have e1' : a'.tmps[42]?.getD undef = .agg #[.int .i64 ry.k, .bool ry.b, .int .i64 ry.n, .string ry.s, .string ry.t, .string ry.i, .slice ry.lo ry.ll ry.lc] := by simpa using e1
      clear ax0' ax1' ax2' ax3' ax4' ax5' ax6' ay0' ay1' ay2' ay3' ay4' ay5' ay6'
      have hb0 : 38 < a'.tmps.size := by rw [hsz]; first | decide | simp
      have e0'' : a'.tmps[38] = .agg #[.int .i64 rx.k, .bool rx.b, .int .i64 rx.n, .string rx.s, .string rx.t, .string rx.i, .slice rx.lo rx.ll rx.lc] := by simpa [hb0] using e0
      have hb1 : 42 < a'.tmps.size := by rw [hsz]; first | decide | simp
      have e1'' : a'.tmps[42] = .agg #[.int .i64 ry.k, .bool ry.b, .int .i64 ry.n, .string ry.s, .string ry.t, .string ry.i, .slice ry.lo ry.ll ry.lc] := by simpa [hb1] using e1
      unfold Oper.wp
      go_simp
      exact hK _ _ ⟨w'.heap.size, Nat.zero_le _, rfl, alloc_heap _ _⟩ (GM.step (fun _ _ _ hb ⟨b, h1, h2⟩ => ⟨b, kept_of_below hb h1, kept_of_below hb h2⟩) hRR (blw1 _ _) 11 43 _ (by decide) (by decide) (by decide)) (SpS.up (blw1 _ _))
    · cases ho
      cases hd
      have e0 : a'.tmps.getD 34 undef = .int .i64 (13 + (m : Int)) := hdep 2 34 rfl (by kernel_rfl)
      have e0' : a'.tmps[34]?.getD undef = .int .i64 (13 + (m : Int)) := by simpa using e0
      obtain ⟨b1, hB1, e1, ho1⟩ : (.blk (0) (fun b => .slice (some ⟨b, 0, none⟩) 2 2) (.cells #[.int .i64 rx.k, .bool rx.b, .int .i64 rx.n, .string rx.s, .string rx.t, .string rx.i, .slice rx.lo rx.ll rx.lc, .int .i64 ry.k, .bool ry.b, .int .i64 ry.n, .string ry.s, .string ry.t, .string ry.i, .slice ry.lo ry.ll ry.lc] 39 (0, 0)) : Sv).sp (a'.tmps.getD 43 undef) w' := hdep 11 43 rfl (by kernel_rfl)
      have e1' : a'.tmps[43]?.getD undef = .slice (some ⟨b1, 0, none⟩) 2 2 := by simpa using e1
      have Ho1 := hide ho1
      clear ho1 ax0' ax1' ax2' ax3' ax4' ax5' ax6' ay0' ay1' ay2' ay3' ay4' ay5' ay6'
      have hb0 : 34 < a'.tmps.size := by rw [hsz]; first | decide | simp
      have e0'' : a'.tmps[34] = .int .i64 (13 + (m : Int)) := by simpa [hb0] using e0
      have hb1 : 43 < a'.tmps.size := by rw [hsz]; first | decide | simp
      have e1'' : a'.tmps[43] = .slice (some ⟨b1, 0, none⟩) 2 2 := by simpa [hb1] using e1
      unfold Oper.wp
      go_simp
      exact hK _ _ ⟨b1, hB1, rfl, unhide Ho1⟩ (GM.step (fun _ _ _ hb ⟨b, h1, h2⟩ => ⟨b, kept_of_below hb h1, kept_of_below hb h2⟩) hRR (Below.refl _ _) 12 44 _ (by decide) (by decide) (by decide)) (fun _ _ h => h)
    · cases ho
      cases hd
      clear ax0' ax1' ax2' ax3' ax4' ax5' ax6' ay0' ay1' ay2' ay3' ay4' ay5' ay6'
      unfold Oper.wp
      go_simp
      exact hK _ _ trivial (hRR.alloc (by decide) hL (by rw [hsz]; first | decide | simp)) (SpS.up (blw1 _ _))
    · cases hd
  · intro q o ho hd L a' w' hL hw hRR hdep K hK
    have hqN : q < 15 := (List.getElem?_eq_some_iff.1 ho).1
    have hR := hRR.below
    have ax0' := (hR.cell (p := ⟨w2.heap.size + 1, x * 7, none⟩) hBb).trans ax0
    have ay0' := (hR.cell (p := ⟨w2.heap.size + 1, y * 7, none⟩) hBb).trans ay0
    have ax1' := (hR.cell (p := ⟨w2.heap.size + 1, x * 7 + 1, none⟩) hBb).trans ax1
    have ay1' := (hR.cell (p := ⟨w2.heap.size + 1, y * 7 + 1, none⟩) hBb).trans ay1
    have ax2' := (hR.cell (p := ⟨w2.heap.size + 1, x * 7 + 2, none⟩) hBb).trans ax2
    have ay2' := (hR.cell (p := ⟨w2.heap.size + 1, y * 7 + 2, none⟩) hBb).trans ay2
    have ax3' := (hR.cell (p := ⟨w2.heap.size + 1, x * 7 + 3, none⟩) hBb).trans ax3
    have ay3' := (hR.cell (p := ⟨w2.heap.size + 1, y * 7 + 3, none⟩) hBb).trans ay3
    have ax4' := (hR.cell (p := ⟨w2.heap.size + 1, x * 7 + 4, none⟩) hBb).trans ax4
    have ay4' := (hR.cell (p := ⟨w2.heap.size + 1, y * 7 + 4, none⟩) hBb).trans ay4
    have ax5' := (hR.cell (p := ⟨w2.heap.size + 1, x * 7 + 5, none⟩) hBb).trans ax5
    have ay5' := (hR.cell (p := ⟨w2.heap.size + 1, y * 7 + 5, none⟩) hBb).trans ay5
    have ax6' := (hR.cell (p := ⟨w2.heap.size + 1, x * 7 + 6, none⟩) hBb).trans ax6
    have ay6' := (hR.cell (p := ⟨w2.heap.size + 1, y * 7 + 6, none⟩) hBb).trans ay6
    have hc : q = 0 ∨ q = 1 ∨ q = 2 ∨ q = 3 ∨ q = 4 ∨ q = 5 ∨ q = 6 ∨ q = 7 ∨ q = 8 ∨ q = 9 ∨ q = 10 ∨ q = 11 ∨ q = 12 ∨ q = 13 ∨ q = 14 := by omega
    rcases hc with rfl | rfl | rfl | rfl | rfl | rfl | rfl | rfl | rfl | rfl | rfl | rfl | rfl | rfl | rfl
    · cases hd
    · cases hd
    · cases hd
    · cases hd
    · cases hd
    · cases hd
    · cases hd
    · cases hd
    · cases hd
    · cases hd
    · cases hd
    · cases hd
    · cases hd
    · cases hd
    · cases ho
      obtain ⟨b0, hB0, e0, ho0⟩ : (.blk (0) (fun b => .agg #[.int .i64 (13 + (m : Int)), .bool false, .int .i64 0, .string ⟨#[]⟩, .string ⟨#[]⟩, .string ⟨#[]⟩, .slice (some ⟨b, 0, none⟩) 2 2]) (.cells #[.int .i64 rx.k, .bool rx.b, .int .i64 rx.n, .string rx.s, .string rx.t, .string rx.i, .slice rx.lo rx.ll rx.lc, .int .i64 ry.k, .bool ry.b, .int .i64 ry.n, .string ry.s, .string ry.t, .string ry.i, .slice ry.lo ry.ll ry.lc] 39 (0, 0)) : Sv).sp (a'.tmps.getD 44 undef) w' := hdep 12 44 rfl (by kernel_rfl)
      have e0' : a'.tmps[44]?.getD undef = .agg #[.int .i64 (13 + (m : Int)), .bool false, .int .i64 0, .string ⟨#[]⟩, .string ⟨#[]⟩, .string ⟨#[]⟩, .slice (some ⟨b0, 0, none⟩) 2 2] := by simpa using e0
      have Ho0 := hide ho0
      clear ho0 ax0' ax1' ax2' ax3' ax4' ax5' ax6' ay0' ay1' ay2' ay3' ay4' ay5' ay6'
      obtain ⟨V, eV, hVle, hVz, hS⟩ := hRR.store (hw 13 (by kernel_rfl)) hL
      have hbV := ne_blocks (unhide Ho0) hVz (by simp)
      have d0 : w'.cell? ⟨V, 0, none⟩ = some (.int .i64 0) := by rw [Lib.cell_of_heap hVz]; rfl
      have d1 : w'.cell? ⟨V, 1, none⟩ = some (.bool false) := by rw [Lib.cell_of_heap hVz]; rfl
      have d2 : w'.cell? ⟨V, 2, none⟩ = some (.int .i64 0) := by rw [Lib.cell_of_heap hVz]; rfl
      have d3 : w'.cell? ⟨V, 3, none⟩ = some (.string ⟨#[]⟩) := by rw [Lib.cell_of_heap hVz]; rfl
      have d4 : w'.cell? ⟨V, 4, none⟩ = some (.string ⟨#[]⟩) := by rw [Lib.cell_of_heap hVz]; rfl
      have d5 : w'.cell? ⟨V, 5, none⟩ = some (.string ⟨#[]⟩) := by rw [Lib.cell_of_heap hVz]; rfl
      have d6 : w'.cell? ⟨V, 6, none⟩ = some (.slice none 0 0) := by rw [Lib.cell_of_heap hVz]; rfl
      have df : ∀ o, w'.frozen? ⟨V, o, none⟩ = false := fun o => Lib.frozen_of_heap hVz o
      have vals := And.intro (set7S_at hVz (.int .i64 (13 + (m : Int))) (.bool false) (.int .i64 0) (.string ⟨#[]⟩) (.string ⟨#[]⟩) (.string ⟨#[]⟩) (.slice (some ⟨b0, 0, none⟩) 2 2)) (set7S_below hRR.below hVle (.int .i64 (13 + (m : Int))) (.bool false) (.int .i64 0) (.string ⟨#[]⟩) (.string ⟨#[]⟩) (.string ⟨#[]⟩) (.slice (some ⟨b0, 0, none⟩) 2 2))
      have HP := hide (And.intro (hS _ vals.2 ⟨b0, vals.1, (set7S_heap _ _ _ _ _ _ _ _ _ _ hbV).trans (unhide Ho0)⟩) (SpS.kept 7 39 hVz rfl (fun k hk => set7S_heap w' V k (.int .i64 (13 + (m : Int))) (.bool false) (.int .i64 0) (.string ⟨#[]⟩) (.string ⟨#[]⟩) (.string ⟨#[]⟩) (.slice (some ⟨b0, 0, none⟩) 2 2) hk) (l := [.eq (.int .i64 n), .eq (.int .i64 (m : Nat)), .eq (.int .i64 (13 + (m : Int))), .eq (.slice (some ⟨w2.heap.size + 1, 0, none⟩) 4 4), .eq (.int .i64 (x : Nat)), .eq (.pointer (some ⟨w2.heap.size + 1, x * 7, none⟩)), .eq (.agg #[.int .i64 rx.k, .bool rx.b, .int .i64 rx.n, .string rx.s, .string rx.t, .string rx.i, .slice rx.lo rx.ll rx.lc]), .eq (.slice (some ⟨w2.heap.size + 1, 0, none⟩) 4 4), .eq (.int .i64 (y : Nat)), .eq (.pointer (some ⟨w2.heap.size + 1, y * 7, none⟩)), .eq (.agg #[.int .i64 ry.k, .bool ry.b, .int .i64 ry.n, .string ry.s, .string ry.t, .string ry.i, .slice ry.lo ry.ll ry.lc]), .blk (0) (fun b => .slice (some ⟨b, 0, none⟩) 2 2) (.cells #[.int .i64 rx.k, .bool rx.b, .int .i64 rx.n, .string rx.s, .string rx.t, .string rx.i, .slice rx.lo rx.ll rx.lc, .int .i64 ry.k, .bool ry.b, .int .i64 ry.n, .string ry.s, .string ry.t, .string ry.i, .slice ry.lo ry.ll ry.lc] 39 (0, 0)), .blk (0) (fun b => .agg #[.int .i64 (13 + (m : Int)), .bool false, .int .i64 0, .string ⟨#[]⟩, .string ⟨#[]⟩, .string ⟨#[]⟩, .slice (some ⟨b, 0, none⟩) 2 2]) (.cells #[.int .i64 rx.k, .bool rx.b, .int .i64 rx.n, .string rx.s, .string rx.t, .string rx.i, .slice rx.lo rx.ll rx.lc, .int .i64 ry.k, .bool ry.b, .int .i64 ry.n, .string ry.s, .string ry.t, .string ry.i, .slice ry.lo ry.ll ry.lc] 39 (0, 0)), .any, .any]) rfl))
      clear hVz hbV vals hS
      have e1 := eV
      unfold Oper.wp
      go_simp
      exact hK _ (unhide HP).1 (unhide HP).2 undef
  · intro v L w' hLa hRR hv
    have bE := hRR.below
    obtain ⟨V, eV, hVle, hVF⟩ := hRR.full (hLa 14 (by decide))
    have f0 : v 0 = .int .i64 n := (hv 0 32 rfl).1
    have f1 : v 1 = .int .i64 (m : Nat) := (hv 1 33 rfl).1
    have f2 : v 2 = .int .i64 (13 + (m : Int)) := (hv 2 34 rfl).1
    have f3 : v 3 = .slice (some ⟨w2.heap.size + 1, 0, none⟩) 4 4 := (hv 3 35 rfl).1
    have f4 : v 4 = .int .i64 (x : Nat) := (hv 4 36 rfl).1
    have f5 : v 5 = .pointer (some ⟨w2.heap.size + 1, x * 7, none⟩) := (hv 5 37 rfl).1
    have f6 : v 6 = .agg #[.int .i64 rx.k, .bool rx.b, .int .i64 rx.n, .string rx.s, .string rx.t, .string rx.i, .slice rx.lo rx.ll rx.lc] := (hv 6 38 rfl).1
    have f7 : v 7 = .slice (some ⟨w2.heap.size + 1, 0, none⟩) 4 4 := (hv 7 39 rfl).1
    have f8 : v 8 = .int .i64 (y : Nat) := (hv 8 40 rfl).1
    have f9 : v 9 = .pointer (some ⟨w2.heap.size + 1, y * 7, none⟩) := (hv 9 41 rfl).1
    have f10 : v 10 = .agg #[.int .i64 ry.k, .bool ry.b, .int .i64 ry.n, .string ry.s, .string ry.t, .string ry.i, .slice ry.lo ry.ll ry.lc] := (hv 10 42 rfl).1
    obtain ⟨b11, hB11, f11, ho11⟩ : (.blk (0) (fun b => .slice (some ⟨b, 0, none⟩) 2 2) (.cells #[.int .i64 rx.k, .bool rx.b, .int .i64 rx.n, .string rx.s, .string rx.t, .string rx.i, .slice rx.lo rx.ll rx.lc, .int .i64 ry.k, .bool ry.b, .int .i64 ry.n, .string ry.s, .string ry.t, .string ry.i, .slice ry.lo ry.ll ry.lc] 39 (0, 0)) : Sv).sp (v 11) w' := (hv 11 43 rfl).1
    obtain ⟨b12, hB12, f12, ho12⟩ : (.blk (0) (fun b => .agg #[.int .i64 (13 + (m : Int)), .bool false, .int .i64 0, .string ⟨#[]⟩, .string ⟨#[]⟩, .string ⟨#[]⟩, .slice (some ⟨b, 0, none⟩) 2 2]) (.cells #[.int .i64 rx.k, .bool rx.b, .int .i64 rx.n, .string rx.s, .string rx.t, .string rx.i, .slice rx.lo rx.ll rx.lc, .int .i64 ry.k, .bool ry.b, .int .i64 ry.n, .string ry.s, .string ry.t, .string ry.i, .slice ry.lo ry.ll ry.lc] 39 (0, 0)) : Sv).sp (v 12) w' := (hv 12 44 rfl).1
    have f13 : v 13 = .pointer (some ⟨V, 0, none⟩) := ((hv 13 11 rfl).2).symm.trans eV
    clear eV
    clear hRR hv hLa
    simp only [putAll, dstOf, List.getElem?_cons_zero, List.getElem?_cons_succ, Option.bind_some, List.length_cons, List.length_nil, f0, f1, f2, f3, f4, f5, f6, f7, f8, f9, f10, f11, f12, f13]
    clear f0 f1 f2 f3 f4 f5 f6 f7 f8 f9 f10 f11 f12 f13
    simp only [Act.put, List.setIfInBounds_toArray, List.set_cons_succ, List.set_cons_zero]
    generalize v 14 = vv14
    obtain ⟨b, hVn, hbn⟩ := hVF
    have bw6 := bE
    have b06 := b05.trans (bw6.mono b05.size)
    have c0 : w'.cell? ⟨V, 0, none⟩ = some (.int .i64 (13 + (m : Int))) := by rw [Lib.cell_of_heap hVn]; rfl
    have c1 : w'.cell? ⟨V, 1, none⟩ = some (.bool false) := by rw [Lib.cell_of_heap hVn]; rfl
    have c2 : w'.cell? ⟨V, 2, none⟩ = some (.int .i64 0) := by rw [Lib.cell_of_heap hVn]; rfl
    have c3 : w'.cell? ⟨V, 3, none⟩ = some (.string ⟨#[]⟩) := by rw [Lib.cell_of_heap hVn]; rfl
    have c4 : w'.cell? ⟨V, 4, none⟩ = some (.string ⟨#[]⟩) := by rw [Lib.cell_of_heap hVn]; rfl
    have c5 : w'.cell? ⟨V, 5, none⟩ = some (.string ⟨#[]⟩) := by rw [Lib.cell_of_heap hVn]; rfl
    have c6 : w'.cell? ⟨V, 6, none⟩ = some (.slice (some ⟨b, 0, none⟩) 2 2) := by rw [Lib.cell_of_heap hVn]; rfl
    have C := CO1 w' b bw6 hbn
    obtain ⟨w6, hw6⟩ : ∃ q, q = w' := ⟨_, rfl⟩
    subst hw6
    clear ho11 ho12
    go_wp2_with fail
    refine C.mono ?_
    clear C c0 c1 c2 c3 c4 c5 c6
    rintro e9 w7 ⟨rfl, b7⟩
    have b8 := blw1 w7 (.cells #[.int .i64 0, .int .i64 0, .string ⟨#[]⟩] 54)
    have bw8 := bw6.trans ((b7.trans (b8.mono b7.size)).mono bw6.size)
    have b0c := b05.trans (bw8.mono b05.size)
    go_upto_region 8 with fail
    generalize w7.alloc _ = wc at *
    have hEc := kept_of_below bw8 hE
    have hBc : w2.heap.size + 1 < wc.heap.size := by have := bw8.size; omega
    have bx0 := (bw8.cell (p := ⟨w2.heap.size + 1, x * 7, none⟩) hBb).trans ax0
    have by_0 := (bw8.cell (p := ⟨w2.heap.size + 1, y * 7, none⟩) hBb).trans ay0
    have bx1 := (bw8.cell (p := ⟨w2.heap.size + 1, x * 7 + 1, none⟩) hBb).trans ax1
    have by_1 := (bw8.cell (p := ⟨w2.heap.size + 1, y * 7 + 1, none⟩) hBb).trans ay1
    have bx2 := (bw8.cell (p := ⟨w2.heap.size + 1, x * 7 + 2, none⟩) hBb).trans ax2
    have by_2 := (bw8.cell (p := ⟨w2.heap.size + 1, y * 7 + 2, none⟩) hBb).trans ay2
    have bx3 := (bw8.cell (p := ⟨w2.heap.size + 1, x * 7 + 3, none⟩) hBb).trans ax3
    have by_3 := (bw8.cell (p := ⟨w2.heap.size + 1, y * 7 + 3, none⟩) hBb).trans ay3
    have bx4 := (bw8.cell (p := ⟨w2.heap.size + 1, x * 7 + 4, none⟩) hBb).trans ax4
    have by_4 := (bw8.cell (p := ⟨w2.heap.size + 1, y * 7 + 4, none⟩) hBb).trans ay4
    have bx5 := (bw8.cell (p := ⟨w2.heap.size + 1, x * 7 + 5, none⟩) hBb).trans ax5
    have by_5 := (bw8.cell (p := ⟨w2.heap.size + 1, y * 7 + 5, none⟩) hBb).trans ay5
    have bx6 := (bw8.cell (p := ⟨w2.heap.size + 1, x * 7 + 6, none⟩) hBb).trans ax6
    have by_6 := (bw8.cell (p := ⟨w2.heap.size + 1, y * 7 + 6, none⟩) hBb).trans ay6
    have CO2 := fun w' b (hb : Below wc.heap.size wc w') ho => CO2 w' b (bw8.trans (hb.mono bw8.size)) ho
    clear ax0 ay0 ax1 ay1 ax2 ay2 ax3 ay3 ax4 ay4 ax5 ay5 ax6 ay6 hVn hbn
    refine wp_specsD (SpS [.eq (.agg #[.slice none 0 0, .slice none 0 0]), .eq (.agg #[.string ⟨#[]⟩, .string ⟨#[]⟩, .string ⟨#[]⟩]), .eq (.agg #[.int .i64 2, .bool false, .int .i64 0, .string ⟨#[]⟩, .string ⟨#[]⟩, .string ⟨#[]⟩, .slice none 0 0]), .eq (.slice (some ⟨w2.heap.size + 1, 0, none⟩) 4 4), .eq (.int .i64 (x : Nat)), .eq (.pointer (some ⟨w2.heap.size + 1, x * 7, none⟩)), .eq (.agg #[.int .i64 rx.k, .bool rx.b, .int .i64 rx.n, .string rx.s, .string rx.t, .string rx.i, .slice rx.lo rx.ll rx.lc]), .eq (.slice (some ⟨w2.heap.size + 1, 0, none⟩) 4 4), .eq (.int .i64 (y : Nat)), .eq (.pointer (some ⟨w2.heap.size + 1, y * 7, none⟩)), .eq (.agg #[.int .i64 ry.k, .bool ry.b, .int .i64 ry.n, .string ry.s, .string ry.t, .string ry.i, .slice ry.lo ry.ll ry.lc]), .blk (0) (fun b => .slice (some ⟨b, 0, none⟩) 3 3) (.cells #[.int .i64 2, .bool false, .int .i64 0, .string ⟨#[]⟩, .string ⟨#[]⟩, .string ⟨#[]⟩, .slice none 0 0, .int .i64 rx.k, .bool rx.b, .int .i64 rx.n, .string rx.s, .string rx.t, .string rx.i, .slice rx.lo rx.ll rx.lc, .int .i64 ry.k, .bool ry.b, .int .i64 ry.n, .string ry.s, .string ry.t, .string ry.i, .slice ry.lo ry.ll ry.lc] 39 (0, 0)), .blk (0) (fun b => .agg #[.int .i64 6, .bool false, .int .i64 0, .string ⟨#[]⟩, .string ⟨#[]⟩, .string ⟨#[]⟩, .slice (some ⟨b, 0, none⟩) 3 3]) (.cells #[.int .i64 2, .bool false, .int .i64 0, .string ⟨#[]⟩, .string ⟨#[]⟩, .string ⟨#[]⟩, .slice none 0 0, .int .i64 rx.k, .bool rx.b, .int .i64 rx.n, .string rx.s, .string rx.t, .string rx.i, .slice rx.lo rx.ll rx.lc, .int .i64 ry.k, .bool ry.b, .int .i64 ry.n, .string ry.s, .string ry.t, .string ry.i, .slice ry.lo ry.ll ry.lc] 39 (0, 0)), .eq (.tuple #[.agg #[.int .i64 0, .int .i64 0, .string ⟨#[]⟩], .int .i64 ex]), .eq (.tuple #[.agg #[.int .i64 0, .int .i64 0, .string ⟨#[]⟩], .int .i64 ex]), .eq (.agg #[.int .i64 0, .int .i64 0, .string ⟨#[]⟩]), .eq (.int .i64 ex), .any, .any, .eq (.int .i64 ex)]) (GM 17 18 14 wc #[.int .i64 0, .int .i64 0, .string ⟨#[]⟩] 54 (fun _ _ => True)) (by kernel_rfl) (by kernel_rfl) (by kernel_rfl) (GM.start _ wc) ?_ ?_ ?_
    · intro q o d ho hd L a' w' hL hw hRR hdep hslot hsz K hK
      have hqN : q < 20 := dstOf_lt hd
      have hR := hRR.below
      have ax0' := (hR.cell (p := ⟨w2.heap.size + 1, x * 7, none⟩) hBc).trans bx0
      have ay0' := (hR.cell (p := ⟨w2.heap.size + 1, y * 7, none⟩) hBc).trans by_0
      have ax1' := (hR.cell (p := ⟨w2.heap.size + 1, x * 7 + 1, none⟩) hBc).trans bx1
      have ay1' := (hR.cell (p := ⟨w2.heap.size + 1, y * 7 + 1, none⟩) hBc).trans by_1
      have ax2' := (hR.cell (p := ⟨w2.heap.size + 1, x * 7 + 2, none⟩) hBc).trans bx2
      have ay2' := (hR.cell (p := ⟨w2.heap.size + 1, y * 7 + 2, none⟩) hBc).trans by_2
      have ax3' := (hR.cell (p := ⟨w2.heap.size + 1, x * 7 + 3, none⟩) hBc).trans bx3
      have ay3' := (hR.cell (p := ⟨w2.heap.size + 1, y * 7 + 3, none⟩) hBc).trans by_3
      have ax4' := (hR.cell (p := ⟨w2.heap.size + 1, x * 7 + 4, none⟩) hBc).trans bx4
      have ay4' := (hR.cell (p := ⟨w2.heap.size + 1, y * 7 + 4, none⟩) hBc).trans by_4
      have ax5' := (hR.cell (p := ⟨w2.heap.size + 1, x * 7 + 5, none⟩) hBc).trans bx5
      have ay5' := (hR.cell (p := ⟨w2.heap.size + 1, y * 7 + 5, none⟩) hBc).trans by_5
      have ax6' := (hR.cell (p := ⟨w2.heap.size + 1, x * 7 + 6, none⟩) hBc).trans bx6
      have ay6' := (hR.cell (p := ⟨w2.heap.size + 1, y * 7 + 6, none⟩) hBc).trans by_6
      have hs7 : a'.tmps.getD 7 undef = .slice (some ⟨w2.heap.size + 1, 0, none⟩) 4 4 := hslot 7 (fun q h => by have hl := dstOf_lt h; match q, hl with | 0, _ => cases h | 1, _ => cases h | 2, _ => cases h | 3, _ => cases h | 4, _ => cases h | 5, _ => cases h | 6, _ => cases h | 7, _ => cases h | 8, _ => cases h | 9, _ => cases h | 10, _ => cases h | 11, _ => cases h | 12, _ => cases h | 13, _ => cases h | 14, _ => cases h | 15, _ => cases h | 16, _ => cases h | 17, _ => cases h | 18, _ => cases h | 19, _ => cases h)
      have hs9 : a'.tmps.getD 9 undef = .int .i64 (x : Nat) := hslot 9 (fun q h => by have hl := dstOf_lt h; match q, hl with | 0, _ => cases h | 1, _ => cases h | 2, _ => cases h | 3, _ => cases h | 4, _ => cases h | 5, _ => cases h | 6, _ => cases h | 7, _ => cases h | 8, _ => cases h | 9, _ => cases h | 10, _ => cases h | 11, _ => cases h | 12, _ => cases h | 13, _ => cases h | 14, _ => cases h | 15, _ => cases h | 16, _ => cases h | 17, _ => cases h | 18, _ => cases h | 19, _ => cases h)
      have hs10 : a'.tmps.getD 10 undef = .int .i64 (y : Nat) := hslot 10 (fun q h => by have hl := dstOf_lt h; match q, hl with | 0, _ => cases h | 1, _ => cases h | 2, _ => cases h | 3, _ => cases h | 4, _ => cases h | 5, _ => cases h | 6, _ => cases h | 7, _ => cases h | 8, _ => cases h | 9, _ => cases h | 10, _ => cases h | 11, _ => cases h | 12, _ => cases h | 13, _ => cases h | 14, _ => cases h | 15, _ => cases h | 16, _ => cases h | 17, _ => cases h | 18, _ => cases h | 19, _ => cases h)
      have hc : q = 0 ∨ q = 1 ∨ q = 2 ∨ q = 3 ∨ q = 4 ∨ q = 5 ∨ q = 6 ∨ q = 7 ∨ q = 8 ∨ q = 9 ∨ q = 10 ∨ q = 11 ∨ q = 12 ∨ q = 13 ∨ q = 14 ∨ q = 15 ∨ q = 16 ∨ q = 17 ∨ q = 18 ∨ q = 19 := by omega
      rcases hc with rfl | rfl | rfl | rfl | rfl | rfl | rfl | rfl | rfl | rfl | rfl | rfl | rfl | rfl | rfl | rfl | rfl | rfl | rfl | rfl
      · cases ho
        cases hd
        clear ax0' ax1' ax2' ax3' ax4' ax5' ax6' ay0' ay1' ay2' ay3' ay4' ay5' ay6'
        unfold Oper.wp
        go_simp
        exact hK _ _ rfl (GM.step (fun _ _ _ _ _ => trivial) hRR (Below.refl _ _) 0 53 _ (by decide) (by decide) (by decide)) (fun _ _ h => h)
      · cases ho
        cases hd
        clear ax0' ax1' ax2' ax3' ax4' ax5' ax6' ay0' ay1' ay2' ay3' ay4' ay5' ay6'
        unfold Oper.wp
        go_simp
        exact hK _ _ rfl (GM.step (fun _ _ _ _ _ => trivial) hRR (Below.refl _ _) 1 54 _ (by decide) (by decide) (by decide)) (fun _ _ h => h)
      · cases ho
        cases hd
        clear ax0' ax1' ax2' ax3' ax4' ax5' ax6' ay0' ay1' ay2' ay3' ay4' ay5' ay6'
        unfold Oper.wp
        go_simp
        exact hK _ _ rfl (GM.step (fun _ _ _ _ _ => trivial) hRR (Below.refl _ _) 2 55 _ (by decide) (by decide) (by decide)) (fun _ _ h => h)
      · cases ho
        cases hd
        have e0 := hs7
        clear ax0' ax1' ax2' ax3' ax4' ax5' ax6' ay0' ay1' ay2' ay3' ay4' ay5' ay6'
        unfold Oper.wp
        go_simp
        exact hK _ _ rfl (GM.step (fun _ _ _ _ _ => trivial) hRR (Below.refl _ _) 3 56 _ (by decide) (by decide) (by decide)) (fun _ _ h => h)
      · cases ho
        cases hd
        have e0 := hs9
        clear ax0' ax1' ax2' ax3' ax4' ax5' ax6' ay0' ay1' ay2' ay3' ay4' ay5' ay6'
        unfold Oper.wp
        go_simp
        exact hK _ _ rfl (GM.step (fun _ _ _ _ _ => trivial) hRR (Below.refl _ _) 4 57 _ (by decide) (by decide) (by decide)) (fun _ _ h => h)
      · cases ho
        cases hd
        have e0 : a'.tmps.getD 56 undef = .slice (some ⟨w2.heap.size + 1, 0, none⟩) 4 4 := hdep 3 56 rfl (by kernel_rfl)
        have e0' : a'.tmps[56]?.getD undef = .slice (some ⟨w2.heap.size + 1, 0, none⟩) 4 4 := by simpa using e0
        have e1 : a'.tmps.getD 57 undef = .int .i64 (x : Nat) := hdep 4 57 rfl (by kernel_rfl)
        have e1' : a'.tmps[57]?.getD undef = .int .i64 (x : Nat) := by simpa using e1
        clear ax0' ax1' ax2' ax3' ax4' ax5' ax6' ay0' ay1' ay2' ay3' ay4' ay5' ay6'
        unfold Oper.wp
        go_simp
        exact hK _ _ rfl (GM.step (fun _ _ _ _ _ => trivial) hRR (Below.refl _ _) 5 58 _ (by decide) (by decide) (by decide)) (fun _ _ h => h)
      · cases ho
        cases hd
        have e0 : a'.tmps.getD 58 undef = .pointer (some ⟨w2.heap.size + 1, x * 7, none⟩) := hdep 5 58 rfl (by kernel_rfl)
        have e0' : a'.tmps[58]?.getD undef = .pointer (some ⟨w2.heap.size + 1, x * 7, none⟩) := by simpa using e0
        clear ay0' ay1' ay2' ay3' ay4' ay5' ay6'
        unfold Oper.wp
        go_simp
        exact hK _ _ rfl (GM.step (fun _ _ _ _ _ => trivial) hRR (Below.refl _ _) 6 59 _ (by decide) (by decide) (by decide)) (fun _ _ h => h)
      · cases ho
        cases hd
        have e0 := hs7
        clear ax0' ax1' ax2' ax3' ax4' ax5' ax6' ay0' ay1' ay2' ay3' ay4' ay5' ay6'
        unfold Oper.wp
        go_simp
        exact hK _ _ rfl (GM.step (fun _ _ _ _ _ => trivial) hRR (Below.refl _ _) 7 60 _ (by decide) (by decide) (by decide)) (fun _ _ h => h)
      · cases ho
        cases hd
        have e0 := hs10
        clear ax0' ax1' ax2' ax3' ax4' ax5' ax6' ay0' ay1' ay2' ay3' ay4' ay5' ay6'
        unfold Oper.wp
        go_simp
        exact hK _ _ rfl (GM.step (fun _ _ _ _ _ => trivial) hRR (Below.refl _ _) 8 61 _ (by decide) (by decide) (by decide)) (fun _ _ h => h)
      · cases ho
        cases hd
        have e0 : a'.tmps.getD 60 undef = .slice (some ⟨w2.heap.size + 1, 0, none⟩) 4 4 := hdep 7 60 rfl (by kernel_rfl)
        have e0' : a'.tmps[60]?.getD undef = .slice (some ⟨w2.heap.size + 1, 0, none⟩) 4 4 := by simpa using e0
        have e1 : a'.tmps.getD 61 undef = .int .i64 (y : Nat) := hdep 8 61 rfl (by kernel_rfl)
        have e1' : a'.tmps[61]?.getD undef = .int .i64 (y : Nat) := by simpa using e1
        clear ax0' ax1' ax2' ax3' ax4' ax5' ax6' ay0' ay1' ay2' ay3' ay4' ay5' ay6'
        unfold Oper.wp
        go_simp
        exact hK _ _ rfl (GM.step (fun _ _ _ _ _ => trivial) hRR (Below.refl _ _) 9 62 _ (by decide) (by decide) (by decide)) (fun _ _ h => h)
      · cases ho
        cases hd
        have e0 : a'.tmps.getD 62 undef = .pointer (some ⟨w2.heap.size + 1, y * 7, none⟩) := hdep 9 62 rfl (by kernel_rfl)
        have e0' : a'.tmps[62]?.getD undef = .pointer (some ⟨w2.heap.size + 1, y * 7, none⟩) := by simpa using e0
        clear ax0' ax1' ax2' ax3' ax4' ax5' ax6'
        unfold Oper.wp
        go_simp
        exact hK _ _ rfl (GM.step (fun _ _ _ _ _ => trivial) hRR (Below.refl _ _) 10 63 _ (by decide) (by decide) (by decide)) (fun _ _ h => h)
      · cases ho
        cases hd
        have e0 : a'.tmps.getD 55 undef = .agg #[.int .i64 2, .bool false, .int .i64 0, .string ⟨#[]⟩, .string ⟨#[]⟩, .string ⟨#[]⟩, .slice none 0 0] := hdep 2 55 rfl (by kernel_rfl)
        have e0' : a'.tmps[55]?.getD undef = .agg #[.int .i64 2, .bool false, .int .i64 0, .string ⟨#[]⟩, .string ⟨#[]⟩, .string ⟨#[]⟩, .slice none 0 0] := by simpa using e0
        have e1 : a'.tmps.getD 59 undef = .agg #[.int .i64 rx.k, .bool rx.b, .int .i64 rx.n, .string rx.s, .string rx.t, .string rx.i, .slice rx.lo rx.ll rx.lc] := hdep 6 59 rfl (by kernel_rfl)
        have e1' : a'.tmps[59]?.getD undef = .agg #[.int .i64 rx.k, .bool rx.b, .int .i64 rx.n, .string rx.s, .string rx.t, .string rx.i, .slice rx.lo rx.ll rx.lc] := by simpa using e1
        have e2 : a'.tmps.getD 63 undef = .agg #[.int .i64 ry.k, .bool ry.b, .int .i64 ry.n, .string ry.s, .string ry.t, .string ry.i, .slice ry.lo ry.ll ry.lc] := hdep 10 63 rfl (by kernel_rfl)
        have e2' : a'.tmps[63]?.getD undef = .agg #[.int .i64 ry.k, .bool ry.b, .int .i64 ry.n, .string ry.s, .string ry.t, .string ry.i, .slice ry.lo ry.ll ry.lc] := by simpa using e2
        clear ax0' ax1' ax2' ax3' ax4' ax5' ax6' ay0' ay1' ay2' ay3' ay4' ay5' ay6'
        have hb0 : 55 < a'.tmps.size := by rw [hsz]; first | decide | simp
        have e0'' : a'.tmps[55] = .agg #[.int .i64 2, .bool false, .int .i64 0, .string ⟨#[]⟩, .string ⟨#[]⟩, .string ⟨#[]⟩, .slice none 0 0] := by simpa [hb0] using e0
        have hb1 : 59 < a'.tmps.size := by rw [hsz]; first | decide | simp
        have e1'' : a'.tmps[59] = .agg #[.int .i64 rx.k, .bool rx.b, .int .i64 rx.n, .string rx.s, .string rx.t, .string rx.i, .slice rx.lo rx.ll rx.lc] := by simpa [hb1] using e1
        have hb2 : 63 < a'.tmps.size := by rw [hsz]; first | decide | simp
        have e2'' : a'.tmps[63] = .agg #[.int .i64 ry.k, .bool ry.b, .int .i64 ry.n, .string ry.s, .string ry.t, .string ry.i, .slice ry.lo ry.ll ry.lc] := by simpa [hb2] using e2
        unfold Oper.wp
        go_simp
        exact hK _ _ ⟨w'.heap.size, Nat.zero_le _, rfl, alloc_heap _ _⟩ (GM.step (fun _ _ _ _ _ => trivial) hRR (blw1 _ _) 11 64 _ (by decide) (by decide) (by decide)) (SpS.up (blw1 _ _))
      · cases ho
        cases hd
        obtain ⟨b0, hB0, e0, ho0⟩ : (.blk (0) (fun b => .slice (some ⟨b, 0, none⟩) 3 3) (.cells #[.int .i64 2, .bool false, .int .i64 0, .string ⟨#[]⟩, .string ⟨#[]⟩, .string ⟨#[]⟩, .slice none 0 0, .int .i64 rx.k, .bool rx.b, .int .i64 rx.n, .string rx.s, .string rx.t, .string rx.i, .slice rx.lo rx.ll rx.lc, .int .i64 ry.k, .bool ry.b, .int .i64 ry.n, .string ry.s, .string ry.t, .string ry.i, .slice ry.lo ry.ll ry.lc] 39 (0, 0)) : Sv).sp (a'.tmps.getD 64 undef) w' := hdep 11 64 rfl (by kernel_rfl)
        have e0' : a'.tmps[64]?.getD undef = .slice (some ⟨b0, 0, none⟩) 3 3 := by simpa using e0
        have Ho0 := hide ho0
        clear ho0 ax0' ax1' ax2' ax3' ax4' ax5' ax6' ay0' ay1' ay2' ay3' ay4' ay5' ay6'
        have hb0 : 64 < a'.tmps.size := by rw [hsz]; first | decide | simp
        have e0'' : a'.tmps[64] = .slice (some ⟨b0, 0, none⟩) 3 3 := by simpa [hb0] using e0
        unfold Oper.wp
        go_simp
        exact hK _ _ ⟨b0, hB0, rfl, unhide Ho0⟩ (GM.step (fun _ _ _ _ _ => trivial) hRR (Below.refl _ _) 12 65 _ (by decide) (by decide) (by decide)) (fun _ _ h => h)
      · cases ho
        cases hd
        have e0 : a'.tmps.getD 53 undef = .agg #[.slice none 0 0, .slice none 0 0] := hdep 0 53 rfl (by kernel_rfl)
        have e0' : a'.tmps[53]?.getD undef = .agg #[.slice none 0 0, .slice none 0 0] := by simpa using e0
        have e1 : a'.tmps.getD 54 undef = .agg #[.string ⟨#[]⟩, .string ⟨#[]⟩, .string ⟨#[]⟩] := hdep 1 54 rfl (by kernel_rfl)
        have e1' : a'.tmps[54]?.getD undef = .agg #[.string ⟨#[]⟩, .string ⟨#[]⟩, .string ⟨#[]⟩] := by simpa using e1
        obtain ⟨b2, hB2, e2, ho2⟩ : (.blk (0) (fun b => .agg #[.int .i64 6, .bool false, .int .i64 0, .string ⟨#[]⟩, .string ⟨#[]⟩, .string ⟨#[]⟩, .slice (some ⟨b, 0, none⟩) 3 3]) (.cells #[.int .i64 2, .bool false, .int .i64 0, .string ⟨#[]⟩, .string ⟨#[]⟩, .string ⟨#[]⟩, .slice none 0 0, .int .i64 rx.k, .bool rx.b, .int .i64 rx.n, .string rx.s, .string rx.t, .string rx.i, .slice rx.lo rx.ll rx.lc, .int .i64 ry.k, .bool ry.b, .int .i64 ry.n, .string ry.s, .string ry.t, .string ry.i, .slice ry.lo ry.ll ry.lc] 39 (0, 0)) : Sv).sp (a'.tmps.getD 65 undef) w' := hdep 12 65 rfl (by kernel_rfl)
        have e2' : a'.tmps[65]?.getD undef = .agg #[.int .i64 6, .bool false, .int .i64 0, .string ⟨#[]⟩, .string ⟨#[]⟩, .string ⟨#[]⟩, .slice (some ⟨b2, 0, none⟩) 3 3] := by simpa using e2
        have Ho2 := hide ho2
        clear ho2 ax0' ax1' ax2' ax3' ax4' ax5' ax6' ay0' ay1' ay2' ay3' ay4' ay5' ay6'
        unfold Oper.wp
        go_simp
        refine (CO2 w' b2 hR (unhide Ho2)).mono ?_
        rintro e w9 ⟨rfl, b9⟩
        exact hK _ _ rfl (GM.step (fun _ _ _ _ _ => trivial) hRR b9 13 66 _ (by decide) (by decide) (by decide)) (SpS.up b9)
      · cases ho
        cases hd
        have e0 : a'.tmps.getD 66 undef = .tuple #[.agg #[.int .i64 0, .int .i64 0, .string ⟨#[]⟩], .int .i64 ex] := hdep 13 66 rfl (by kernel_rfl)
        have e0' : a'.tmps[66]?.getD undef = .tuple #[.agg #[.int .i64 0, .int .i64 0, .string ⟨#[]⟩], .int .i64 ex] := by simpa using e0
        clear ax0' ax1' ax2' ax3' ax4' ax5' ax6' ay0' ay1' ay2' ay3' ay4' ay5' ay6'
        unfold Oper.wp
        go_simp
        exact hK _ _ rfl (GM.step (fun _ _ _ _ _ => trivial) hRR (Below.refl _ _) 14 52 _ (by decide) (by decide) (by decide)) (fun _ _ h => h)
      · cases ho
        cases hd
        have e0 : a'.tmps.getD 52 undef = .tuple #[.agg #[.int .i64 0, .int .i64 0, .string ⟨#[]⟩], .int .i64 ex] := hdep 14 52 rfl (by kernel_rfl)
        have e0' : a'.tmps[52]?.getD undef = .tuple #[.agg #[.int .i64 0, .int .i64 0, .string ⟨#[]⟩], .int .i64 ex] := by simpa using e0
        clear ax0' ax1' ax2' ax3' ax4' ax5' ax6' ay0' ay1' ay2' ay3' ay4' ay5' ay6'
        unfold Oper.wp
        go_simp
        exact hK _ _ rfl (GM.step (fun _ _ _ _ _ => trivial) hRR (Below.refl _ _) 15 67 _ (by decide) (by decide) (by decide)) (fun _ _ h => h)
      · cases ho
        cases hd
        have e0 : a'.tmps.getD 52 undef = .tuple #[.agg #[.int .i64 0, .int .i64 0, .string ⟨#[]⟩], .int .i64 ex] := hdep 14 52 rfl (by kernel_rfl)
        have e0' : a'.tmps[52]?.getD undef = .tuple #[.agg #[.int .i64 0, .int .i64 0, .string ⟨#[]⟩], .int .i64 ex] := by simpa using e0
        clear ax0' ax1' ax2' ax3' ax4' ax5' ax6' ay0' ay1' ay2' ay3' ay4' ay5' ay6'
        unfold Oper.wp
        go_simp
        exact hK _ _ rfl (GM.step (fun _ _ _ _ _ => trivial) hRR (Below.refl _ _) 16 68 _ (by decide) (by decide) (by decide)) (fun _ _ h => h)
      · cases ho
        cases hd
        clear ax0' ax1' ax2' ax3' ax4' ax5' ax6' ay0' ay1' ay2' ay3' ay4' ay5' ay6'
        unfold Oper.wp
        go_simp
        exact hK _ _ trivial (hRR.alloc (by decide) hL (by rw [hsz]; first | decide | simp)) (SpS.up (blw1 _ _))
      · cases hd
      · cases ho
        cases hd
        have e0 : a'.tmps.getD 68 undef = .int .i64 ex := hdep 16 68 rfl (by kernel_rfl)
        have e0' : a'.tmps[68]?.getD undef = .int .i64 ex := by simpa using e0
        clear ax0' ax1' ax2' ax3' ax4' ax5' ax6' ay0' ay1' ay2' ay3' ay4' ay5' ay6'
        unfold Oper.wp
        go_simp
        exact hK _ _ rfl (GM.step (fun _ _ _ _ _ => trivial) hRR (Below.refl _ _) 19 15 _ (by decide) (by decide) (by decide)) (fun _ _ h => h)
    · intro q o ho hd L a' w' hL hw hRR hdep K hK
      have hqN : q < 20 := (List.getElem?_eq_some_iff.1 ho).1
      have hR := hRR.below
      have ax0' := (hR.cell (p := ⟨w2.heap.size + 1, x * 7, none⟩) hBc).trans bx0
      have ay0' := (hR.cell (p := ⟨w2.heap.size + 1, y * 7, none⟩) hBc).trans by_0
      have ax1' := (hR.cell (p := ⟨w2.heap.size + 1, x * 7 + 1, none⟩) hBc).trans bx1
      have ay1' := (hR.cell (p := ⟨w2.heap.size + 1, y * 7 + 1, none⟩) hBc).trans by_1
      have ax2' := (hR.cell (p := ⟨w2.heap.size + 1, x * 7 + 2, none⟩) hBc).trans bx2
      have ay2' := (hR.cell (p := ⟨w2.heap.size + 1, y * 7 + 2, none⟩) hBc).trans by_2
      have ax3' := (hR.cell (p := ⟨w2.heap.size + 1, x * 7 + 3, none⟩) hBc).trans bx3
      have ay3' := (hR.cell (p := ⟨w2.heap.size + 1, y * 7 + 3, none⟩) hBc).trans by_3
      have ax4' := (hR.cell (p := ⟨w2.heap.size + 1, x * 7 + 4, none⟩) hBc).trans bx4
      have ay4' := (hR.cell (p := ⟨w2.heap.size + 1, y * 7 + 4, none⟩) hBc).trans by_4
      have ax5' := (hR.cell (p := ⟨w2.heap.size + 1, x * 7 + 5, none⟩) hBc).trans bx5
      have ay5' := (hR.cell (p := ⟨w2.heap.size + 1, y * 7 + 5, none⟩) hBc).trans by_5
      have ax6' := (hR.cell (p := ⟨w2.heap.size + 1, x * 7 + 6, none⟩) hBc).trans bx6
      have ay6' := (hR.cell (p := ⟨w2.heap.size + 1, y * 7 + 6, none⟩) hBc).trans by_6
      have hc : q = 0 ∨ q = 1 ∨ q = 2 ∨ q = 3 ∨ q = 4 ∨ q = 5 ∨ q = 6 ∨ q = 7 ∨ q = 8 ∨ q = 9 ∨ q = 10 ∨ q = 11 ∨ q = 12 ∨ q = 13 ∨ q = 14 ∨ q = 15 ∨ q = 16 ∨ q = 17 ∨ q = 18 ∨ q = 19 := by omega
      rcases hc with rfl | rfl | rfl | rfl | rfl | rfl | rfl | rfl | rfl | rfl | rfl | rfl | rfl | rfl | rfl | rfl | rfl | rfl | rfl | rfl
      · cases hd
      · cases hd
      · cases hd
      · cases hd
      · cases hd
      · cases hd
      · cases hd
      · cases hd
      · cases hd
      · cases hd
      · cases hd
      · cases hd
      · cases hd
      · cases hd
      · cases hd
      · cases hd
      · cases hd
      · cases hd
      · cases ho
        have e0 : a'.tmps.getD 67 undef = .agg #[.int .i64 0, .int .i64 0, .string ⟨#[]⟩] := hdep 15 67 rfl (by kernel_rfl)
        have e0' : a'.tmps[67]?.getD undef = .agg #[.int .i64 0, .int .i64 0, .string ⟨#[]⟩] := by simpa using e0
        clear ax0' ax1' ax2' ax3' ax4' ax5' ax6' ay0' ay1' ay2' ay3' ay4' ay5' ay6'
        obtain ⟨V, eV, hVle, hVz, hS⟩ := hRR.store (hw 17 (by kernel_rfl)) hL
        have d0 : w'.cell? ⟨V, 0, none⟩ = some (.int .i64 0) := by rw [Lib.cell_of_heap hVz]; rfl
        have d1 : w'.cell? ⟨V, 1, none⟩ = some (.int .i64 0) := by rw [Lib.cell_of_heap hVz]; rfl
        have d2 : w'.cell? ⟨V, 2, none⟩ = some (.string ⟨#[]⟩) := by rw [Lib.cell_of_heap hVz]; rfl
        have df : ∀ o, w'.frozen? ⟨V, o, none⟩ = false := fun o => Lib.frozen_of_heap hVz o
        have HP := hide (And.intro (hS _ (set3_below (.int .i64 0) (.int .i64 0) (.string ⟨#[]⟩) hRR.below hVle) trivial) (SpS.kept 3 54 hVz rfl (set3_keep w' V (.int .i64 0) (.int .i64 0) (.string ⟨#[]⟩)) (l := [.eq (.agg #[.slice none 0 0, .slice none 0 0]), .eq (.agg #[.string ⟨#[]⟩, .string ⟨#[]⟩, .string ⟨#[]⟩]), .eq (.agg #[.int .i64 2, .bool false, .int .i64 0, .string ⟨#[]⟩, .string ⟨#[]⟩, .string ⟨#[]⟩, .slice none 0 0]), .eq (.slice (some ⟨w2.heap.size + 1, 0, none⟩) 4 4), .eq (.int .i64 (x : Nat)), .eq (.pointer (some ⟨w2.heap.size + 1, x * 7, none⟩)), .eq (.agg #[.int .i64 rx.k, .bool rx.b, .int .i64 rx.n, .string rx.s, .string rx.t, .string rx.i, .slice rx.lo rx.ll rx.lc]), .eq (.slice (some ⟨w2.heap.size + 1, 0, none⟩) 4 4), .eq (.int .i64 (y : Nat)), .eq (.pointer (some ⟨w2.heap.size + 1, y * 7, none⟩)), .eq (.agg #[.int .i64 ry.k, .bool ry.b, .int .i64 ry.n, .string ry.s, .string ry.t, .string ry.i, .slice ry.lo ry.ll ry.lc]), .blk (0) (fun b => .slice (some ⟨b, 0, none⟩) 3 3) (.cells #[.int .i64 2, .bool false, .int .i64 0, .string ⟨#[]⟩, .string ⟨#[]⟩, .string ⟨#[]⟩, .slice none 0 0, .int .i64 rx.k, .bool rx.b, .int .i64 rx.n, .string rx.s, .string rx.t, .string rx.i, .slice rx.lo rx.ll rx.lc, .int .i64 ry.k, .bool ry.b, .int .i64 ry.n, .string ry.s, .string ry.t, .string ry.i, .slice ry.lo ry.ll ry.lc] 39 (0, 0)), .blk (0) (fun b => .agg #[.int .i64 6, .bool false, .int .i64 0, .string ⟨#[]⟩, .string ⟨#[]⟩, .string ⟨#[]⟩, .slice (some ⟨b, 0, none⟩) 3 3]) (.cells #[.int .i64 2, .bool false, .int .i64 0, .string ⟨#[]⟩, .string ⟨#[]⟩, .string ⟨#[]⟩, .slice none 0 0, .int .i64 rx.k, .bool rx.b, .int .i64 rx.n, .string rx.s, .string rx.t, .string rx.i, .slice rx.lo rx.ll rx.lc, .int .i64 ry.k, .bool ry.b, .int .i64 ry.n, .string ry.s, .string ry.t, .string ry.i, .slice ry.lo ry.ll ry.lc] 39 (0, 0)), .eq (.tuple #[.agg #[.int .i64 0, .int .i64 0, .string ⟨#[]⟩], .int .i64 ex]), .eq (.tuple #[.agg #[.int .i64 0, .int .i64 0, .string ⟨#[]⟩], .int .i64 ex]), .eq (.agg #[.int .i64 0, .int .i64 0, .string ⟨#[]⟩]), .eq (.int .i64 ex), .any, .any, .eq (.int .i64 ex)]) rfl))
        have e1 := eV
        clear hVz hS
        unfold Oper.wp
        go_simp
        exact hK _ (unhide HP).1 (unhide HP).2 undef
      · cases hd
    · intro v L w' hLa hRR hv
      have bE := hRR.below
      obtain ⟨V, eV, hVle, hVF⟩ := hRR.full (hLa 18 (by decide))
      have f0 : v 0 = .agg #[.slice none 0 0, .slice none 0 0] := (hv 0 53 rfl).1
      have f1 : v 1 = .agg #[.string ⟨#[]⟩, .string ⟨#[]⟩, .string ⟨#[]⟩] := (hv 1 54 rfl).1
      have f2 : v 2 = .agg #[.int .i64 2, .bool false, .int .i64 0, .string ⟨#[]⟩, .string ⟨#[]⟩, .string ⟨#[]⟩, .slice none 0 0] := (hv 2 55 rfl).1
      have f3 : v 3 = .slice (some ⟨w2.heap.size + 1, 0, none⟩) 4 4 := (hv 3 56 rfl).1
      have f4 : v 4 = .int .i64 (x : Nat) := (hv 4 57 rfl).1
      have f5 : v 5 = .pointer (some ⟨w2.heap.size + 1, x * 7, none⟩) := (hv 5 58 rfl).1
      have f6 : v 6 = .agg #[.int .i64 rx.k, .bool rx.b, .int .i64 rx.n, .string rx.s, .string rx.t, .string rx.i, .slice rx.lo rx.ll rx.lc] := (hv 6 59 rfl).1
      have f7 : v 7 = .slice (some ⟨w2.heap.size + 1, 0, none⟩) 4 4 := (hv 7 60 rfl).1
      have f8 : v 8 = .int .i64 (y : Nat) := (hv 8 61 rfl).1
      have f9 : v 9 = .pointer (some ⟨w2.heap.size + 1, y * 7, none⟩) := (hv 9 62 rfl).1
      have f10 : v 10 = .agg #[.int .i64 ry.k, .bool ry.b, .int .i64 ry.n, .string ry.s, .string ry.t, .string ry.i, .slice ry.lo ry.ll ry.lc] := (hv 10 63 rfl).1
      have f13 : v 13 = .tuple #[.agg #[.int .i64 0, .int .i64 0, .string ⟨#[]⟩], .int .i64 ex] := (hv 13 66 rfl).1
      have f14 : v 14 = .tuple #[.agg #[.int .i64 0, .int .i64 0, .string ⟨#[]⟩], .int .i64 ex] := (hv 14 52 rfl).1
      have f15 : v 15 = .agg #[.int .i64 0, .int .i64 0, .string ⟨#[]⟩] := (hv 15 67 rfl).1
      have f16 : v 16 = .int .i64 ex := (hv 16 68 rfl).1
      have f19 : v 19 = .int .i64 ex := (hv 19 15 rfl).1
      obtain ⟨b11, hB11, f11, ho11⟩ : (.blk (0) (fun b => .slice (some ⟨b, 0, none⟩) 3 3) (.cells #[.int .i64 2, .bool false, .int .i64 0, .string ⟨#[]⟩, .string ⟨#[]⟩, .string ⟨#[]⟩, .slice none 0 0, .int .i64 rx.k, .bool rx.b, .int .i64 rx.n, .string rx.s, .string rx.t, .string rx.i, .slice rx.lo rx.ll rx.lc, .int .i64 ry.k, .bool ry.b, .int .i64 ry.n, .string ry.s, .string ry.t, .string ry.i, .slice ry.lo ry.ll ry.lc] 39 (0, 0)) : Sv).sp (v 11) w' := (hv 11 64 rfl).1
      obtain ⟨b12, hB12, f12, ho12⟩ : (.blk (0) (fun b => .agg #[.int .i64 6, .bool false, .int .i64 0, .string ⟨#[]⟩, .string ⟨#[]⟩, .string ⟨#[]⟩, .slice (some ⟨b, 0, none⟩) 3 3]) (.cells #[.int .i64 2, .bool false, .int .i64 0, .string ⟨#[]⟩, .string ⟨#[]⟩, .string ⟨#[]⟩, .slice none 0 0, .int .i64 rx.k, .bool rx.b, .int .i64 rx.n, .string rx.s, .string rx.t, .string rx.i, .slice rx.lo rx.ll rx.lc, .int .i64 ry.k, .bool ry.b, .int .i64 ry.n, .string ry.s, .string ry.t, .string ry.i, .slice ry.lo ry.ll ry.lc] 39 (0, 0)) : Sv).sp (v 12) w' := (hv 12 65 rfl).1
      have f17 : v 17 = .pointer (some ⟨V, 0, none⟩) := ((hv 17 14 rfl).2).symm.trans eV
      clear eV
      clear hRR hv hLa
      simp only [putAll, dstOf, List.getElem?_cons_zero, List.getElem?_cons_succ, Option.bind_some, List.length_cons, List.length_nil, f0, f1, f2, f3, f4, f5, f6, f7, f8, f9, f10, f11, f12, f13, f14, f15, f16, f17, f19]
      clear f0 f1 f2 f3 f4 f5 f6 f7 f8 f9 f10 f11 f12 f13 f14 f15 f16 f17 f19
      simp only [Act.put, List.setIfInBounds_toArray, List.set_cons_succ, List.set_cons_zero]
      generalize v 18 = vv18
      have hE9 := kept_of_below bE hEc
      have ce : w'.cell? ⟨w2.heap.size + 2, x, none⟩ = some (.int .i64 ex) := by rw [Lib.cell_of_heap hE9]; exact unhide HEX
      have bZ := b0c.trans (bE.mono b0c.size)
      have exx : (ex == ex) = true := by simp
      clear hE9
      go_wp2
      go_ret
      exact ⟨rfl, bZ⟩
end Go.Proofs.Ytjajhmojcmfidaa
