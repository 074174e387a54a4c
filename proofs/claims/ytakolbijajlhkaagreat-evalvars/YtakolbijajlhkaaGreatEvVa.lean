/-
  chancellaw13.EvalVars: the walk.
-/
import Derived.Test.YtakolbijajlhkaaGreatEvSV
import Derived.Test.YtakolbijajlhkaaGreatDcQ
import Derived.Test.YtakolbijajlhkaaGreatGdU
namespace Go.Proofs.YtakolbijajlhkaaGreat
open Go.RowKit Go.Sort

def vrD (p a r : U2) : EvD := noD p a r
theorem vr_uids (p a r : U2) (k : Nat) (hk : k < 3) (w : World) (b : Nat) (h : w.heap[b]? = some (.cells #[.string p.t, .string p.i, .string a.t, .string a.i, .string r.t, .string r.i] 25 (0, 0))) :
    w.cell? ⟨b, k * 2, none⟩ = some (.string (vrU (noD p a r) k).t) ∧ w.cell? ⟨b, k * 2 + 1, none⟩ = some (.string (vrU (noD p a r) k).i) := by
  rw [Lib.cell_of_heap h, Lib.cell_of_heap h]
  match k, hk with
  | 0, _ | 1, _ | 2, _ => exact ⟨rfl, rfl⟩
  | k + 3, h => exact absurd h (by omega)
theorem vr_names (k : Nat) (hk : k < 3) (w : World) (b : Nat) (h : w.heap[b]? = some (.cells #[.string ⟨#[112, 114, 105, 110, 99, 105, 112, 97, 108]⟩, .string ⟨#[97, 99, 116, 105, 111, 110]⟩, .string ⟨#[114, 101, 115, 111, 117, 114, 99, 101]⟩] 9 (0, 0))) : w.cell? ⟨b, k, none⟩ = some (.string (ba (vrN k))) := by
  rw [Lib.cell_of_heap h]
  match k, hk with
  | 0, _ | 1, _ | 2, _ => rfl
  | k + 3, h => exact absurd h (by omega)
theorem okEv_var (k : Nat) : okEv (eVar (vrN k)) = true := by
  have h0 : InR 0 := by decide
  have h1 : (vrN k).length < 4294967281 := by
    unfold vrN
    repeat' split
    all_goals decide
  unfold eVar
  simp [okEv, okEvL, h0, h1]
theorem vr_in (p a r : U2) (k : Nat) (hk : k < 3) : evalE (noD p a r) (inT (uT (vrU (noD p a r) k)) (eVar (vrN k))) = .inl (.pl (.bool true)) := by
  rw [eval_inV _ _ k hk]
  show boolC (decide (vrU (noD p a r) k = vrU (noD p a r) k)) = _
  rw [decide_eq_true rfl]
  rfl
set_option maxHeartbeats 8000000 in
set_option maxRecDepth 1000000 in
theorem evars_walk (so : Option Addr) (xs : List Int) (sc : Nat) (n : Int) (w : World) (hz : IntsAt w so xs) (hf : FitL w) : Calls Tryz.prog 3 #[.slice so xs.length sc, .int .i64 n] w fun e w' => e = .returned (.bool true) ∧ Below w.heap.size w w' := by
  have C0 := known13_any w hf
  obtain ⟨k, hk⟩ : ∃ k : Nat, (k : Int) = n % 3 := ⟨(n % 3).toNat, by omega⟩
  have CW := fun w' => within13_any n 3 (by decide) (by decide) w'
  rw [← hk] at CW
  have hk3 : k < 3 := by omega
  clear hk
  have k0 : (0 : Int) ≤ (k : Int) := by omega
  have k1 : (k : Int) < 3 := by omega
  have HREQ := hide (fun w' (hz' : IntsAt w' so xs) => req13_any (.slice none 0 0) so xs sc w' hz')
  have HZ := hide hz
  clear hz
  generalize xs.length = N at *
  go_enter Tryz.func3, Tryz.ntmps3
  go_wp2_with fail
  refine C0.mono ?_
  clear C0
  rintro e9 w2 ⟨rfl, b02⟩
  have C1 := unhide HREQ w2 ((unhide HZ).below b02)
  clear HREQ HZ
  go_wp2_with fail
  refine C1.mono ?_
  clear C1
  rintro e9 w3 ⟨b23, p, a, r, rfl⟩
  have b3 := ev1 w3 (.cells #[.string p.t, .string p.i, .string a.t, .string a.i, .string r.t, .string r.i] 27)
  have hR4 := alloc_heap w3 (.cells #[.string p.t, .string p.i, .string a.t, .string a.i, .string r.t, .string r.i] 27)
  have HF := hide (hf.below (b02.trans ((b23.trans (b3.mono b23.size)).mono b02.size)))
  have HB0 := hide (b02.trans ((b23.trans (b3.mono b23.size)).mono b02.size))
  clear b02 b23 b3 hf
  go_upto_region 4 with fail
  generalize w3.alloc _ = w4 at *
  obtain ⟨Rb, hRb⟩ : ∃ q, q = w3.heap.size := ⟨_, rfl⟩
  rw [← hRb] at hR4 ⊢
  clear hRb
  have hRb : Rb < w4.heap.size := (Array.getElem?_eq_some_iff.1 hR4).1
  have rq0 : w4.cell? ⟨Rb, 0, none⟩ = some (.string p.t) := by rw [Lib.cell_of_heap hR4]; rfl
  have rq1 : w4.cell? ⟨Rb, 1, none⟩ = some (.string p.i) := by rw [Lib.cell_of_heap hR4]; rfl
  have rq2 : w4.cell? ⟨Rb, 2, none⟩ = some (.string a.t) := by rw [Lib.cell_of_heap hR4]; rfl
  have rq3 : w4.cell? ⟨Rb, 3, none⟩ = some (.string a.i) := by rw [Lib.cell_of_heap hR4]; rfl
  have rq4 : w4.cell? ⟨Rb, 4, none⟩ = some (.string r.t) := by rw [Lib.cell_of_heap hR4]; rfl
  have rq5 : w4.cell? ⟨Rb, 5, none⟩ = some (.string r.i) := by rw [Lib.cell_of_heap hR4]; rfl
  clear hR4
  have HUC := hide (vr_uids p a r k hk3)
  have HNC := hide (vr_names k hk3)
  have CO1 : ∀ w', FitL w' → Calls Tryz.prog 7 #[.slice none 0 0, .agg #[.string p.t, .string p.i, .string a.t, .string a.i, .string r.t, .string r.i], .agg #[.int .i64 5, .bool false, .int .i64 0, .string (ba (vrN k)), .string ⟨#[]⟩, .string ⟨#[]⟩, .slice none 0 0]] w' fun e w'' => e = .returned (.tuple #[.agg #[.int .i64 4, .bool false, .int .i64 0, .string ⟨#[]⟩, .string (vrU (noD p a r) k).t, .string (vrU (noD p a r) k).i, .slice none 0 0], .int .i64 0]) ∧ Below w'.heap.size w' w'' := fun w' hf' =>
    expr13_pl (noD p a r) none [] 0 0 (eVar (vrN k)) ⟨5, false, 0, ba (vrN k), ⟨#[]⟩, ⟨#[]⟩, none, 0, 0⟩ w' rfl (ew_nil _ hf' _ _ _) (isE_leaf _ 5 false 0 (vrN k) [] [] 0 none) (okEv_var k) (eval_var _ k hk3)
  have CO2 : ∀ w' (b : Nat), FitL w' → w'.heap[b]? = some (.cells #[.int .i64 4, .bool false, .int .i64 0, .string ⟨#[]⟩, .string (vrU (noD p a r) k).t, .string (vrU (noD p a r) k).i, .slice none 0 0, .int .i64 5, .bool false, .int .i64 0, .string (ba (vrN k)), .string ⟨#[]⟩, .string ⟨#[]⟩, .slice none 0 0] 44 (0, 0)) → Calls Tryz.prog 7 #[.slice none 0 0, .agg #[.string p.t, .string p.i, .string a.t, .string a.i, .string r.t, .string r.i], .agg #[.int .i64 22, .bool false, .int .i64 0, .string ⟨#[]⟩, .string ⟨#[]⟩, .string ⟨#[]⟩, .slice (some ⟨b, 0, none⟩) 2 2]] w' fun e w'' => e = .returned (.tuple #[.agg #[.int .i64 1, .bool true, .int .i64 0, .string ⟨#[]⟩, .string ⟨#[]⟩, .string ⟨#[]⟩, .slice none 0 0], .int .i64 0]) ∧ Below w'.heap.size w' w'' := fun w' b hf' ho =>
    expr13_pl (noD p a r) none [] 0 0 (inT (uT (vrU (noD p a r) k)) (eVar (vrN k))) ⟨22, false, 0, ⟨#[]⟩, ⟨#[]⟩, ⟨#[]⟩, some ⟨b, 0, none⟩, 2, 2⟩ w' rfl (ew_nil _ hf' _ _ _) (isE_node (s := []) (t := []) (i := []) rfl (isEs_block [⟨4, false, 0, ⟨#[]⟩, (vrU (noD p a r) k).t, (vrU (noD p a r) k).i, none, 0, 0⟩, ⟨5, false, 0, ba (vrN k), ⟨#[]⟩, ⟨#[]⟩, none, 0, 0⟩] [uT (vrU (noD p a r) k), eVar (vrN k)] ho rfl (.cons (isE_leaf _ 4 false 0 [] (vrU (noD p a r) k).t.data.toList (vrU (noD p a r) k).i.data.toList 0 none) (.cons (isE_leaf _ 5 false 0 (vrN k) [] [] 0 none) .nil)))) (okEv_in (okEv_u _) (okEv_var k)) (vr_in p a r k hk3)
  generalize vrU (noD p a r) k = u at *
  generalize ba (vrN k) = nm at *
  have CO1 := hide CO1
  have CO2 := hide CO2
  have HK11_12 := hide (show ∀ (V : Nat) (w1 w2 : World), Below w1.heap.size w1 w2 → (fun V w' => w'.heap[V]? = some (.cells #[.string u.t, .string u.i] 25 (0, 0))) V w1 → (fun V w' => w'.heap[V]? = some (.cells #[.string u.t, .string u.i] 25 (0, 0))) V w2 from fun _ _ _ hb h => kept_of_below hb h)
  refine wp_specsD (SpS [.eq (.pointer (some ⟨Rb, 0, none⟩)), .eq (.agg #[.string p.t, .string p.i]), .eq (.pointer (some ⟨Rb, 2, none⟩)), .eq (.agg #[.string a.t, .string a.i]), .eq (.pointer (some ⟨Rb, 4, none⟩)), .eq (.agg #[.string r.t, .string r.i]), .blk (0) (fun b => .slice (some ⟨b, 0, none⟩) 3 3) (.cells #[.string p.t, .string p.i, .string a.t, .string a.i, .string r.t, .string r.i] 25 (0, 0)), .eq (.int .i64 n), .eq (.int .i64 (k : Nat)), .blk (0) (fun b => .pointer (some ⟨b, k * 2, none⟩)) (.cells #[.string p.t, .string p.i, .string a.t, .string a.i, .string r.t, .string r.i] 25 (0, 0)), .eq (.agg #[.string u.t, .string u.i]), .any, .any]) (GM 11 12 6 w4 #[.string ⟨#[]⟩, .string ⟨#[]⟩] 25 (fun V w' => w'.heap[V]? = some (.cells #[.string u.t, .string u.i] 25 (0, 0)))) (by kernel_rfl) (by kernel_rfl) (by kernel_rfl) (GM.start _ w4) ?_ ?_ ?_
  · intro q o d ho hd L a' w' hL hw hRR hdep hslot hsz K hK
    have hqN : q < 13 := dstOf_lt hd
    have hR := hRR.below
    have rq0' := (hR.cell (p := ⟨Rb, 0, none⟩) hRb).trans rq0
    have rq1' := (hR.cell (p := ⟨Rb, 1, none⟩) hRb).trans rq1
    have rq2' := (hR.cell (p := ⟨Rb, 2, none⟩) hRb).trans rq2
    have rq3' := (hR.cell (p := ⟨Rb, 3, none⟩) hRb).trans rq3
    have rq4' := (hR.cell (p := ⟨Rb, 4, none⟩) hRb).trans rq4
    have rq5' := (hR.cell (p := ⟨Rb, 5, none⟩) hRb).trans rq5
    have hs5 : a'.tmps.getD 5 undef = .pointer (some ⟨Rb, 0, none⟩) := hslot 5 (fun q h => by have hl := dstOf_lt h; match q, hl with | 0, _ => cases h | 1, _ => cases h | 2, _ => cases h | 3, _ => cases h | 4, _ => cases h | 5, _ => cases h | 6, _ => cases h | 7, _ => cases h | 8, _ => cases h | 9, _ => cases h | 10, _ => cases h | 11, _ => cases h | 12, _ => cases h)
    have hs1 : a'.tmps.getD 1 undef = .int .i64 n := hslot 1 (fun q h => by have hl := dstOf_lt h; match q, hl with | 0, _ => cases h | 1, _ => cases h | 2, _ => cases h | 3, _ => cases h | 4, _ => cases h | 5, _ => cases h | 6, _ => cases h | 7, _ => cases h | 8, _ => cases h | 9, _ => cases h | 10, _ => cases h | 11, _ => cases h | 12, _ => cases h)
    have hc : q = 0 ∨ q = 1 ∨ q = 2 ∨ q = 3 ∨ q = 4 ∨ q = 5 ∨ q = 6 ∨ q = 7 ∨ q = 8 ∨ q = 9 ∨ q = 10 ∨ q = 11 ∨ q = 12 := by omega
    rcases hc with rfl | rfl | rfl | rfl | rfl | rfl | rfl | rfl | rfl | rfl | rfl | rfl | rfl
    · cases ho
      cases hd
      have e0 := hs5
      clear rq0' rq1' rq2' rq3' rq4' rq5'
      unfold Oper.wp
      go_simp
      exact hK _ _ rfl (GM.step (unhide HK11_12) hRR (Below.refl _ _) 0 16 _ (by decide) (by decide) (by decide)) (fun _ _ h => h)
    · cases ho
      cases hd
      have e0 : a'.tmps.getD 16 undef = .pointer (some ⟨Rb, 0, none⟩) := hdep 0 16 rfl (by kernel_rfl)
      have e0' : a'.tmps[16]?.getD undef = .pointer (some ⟨Rb, 0, none⟩) := by simpa using e0
      unfold Oper.wp
      go_simp
      exact hK _ _ rfl (GM.step (unhide HK11_12) hRR (Below.refl _ _) 1 17 _ (by decide) (by decide) (by decide)) (fun _ _ h => h)
    · cases ho
      cases hd
      have e0 := hs5
      clear rq0' rq1' rq2' rq3' rq4' rq5'
      unfold Oper.wp
      go_simp
      exact hK _ _ rfl (GM.step (unhide HK11_12) hRR (Below.refl _ _) 2 18 _ (by decide) (by decide) (by decide)) (fun _ _ h => h)
    · cases ho
      cases hd
      have e0 : a'.tmps.getD 18 undef = .pointer (some ⟨Rb, 2, none⟩) := hdep 2 18 rfl (by kernel_rfl)
      have e0' : a'.tmps[18]?.getD undef = .pointer (some ⟨Rb, 2, none⟩) := by simpa using e0
      unfold Oper.wp
      go_simp
      exact hK _ _ rfl (GM.step (unhide HK11_12) hRR (Below.refl _ _) 3 19 _ (by decide) (by decide) (by decide)) (fun _ _ h => h)
    · cases ho
      cases hd
      have e0 := hs5
      clear rq0' rq1' rq2' rq3' rq4' rq5'
      unfold Oper.wp
      go_simp
      exact hK _ _ rfl (GM.step (unhide HK11_12) hRR (Below.refl _ _) 4 20 _ (by decide) (by decide) (by decide)) (fun _ _ h => h)
    · cases ho
      cases hd
      have e0 : a'.tmps.getD 20 undef = .pointer (some ⟨Rb, 4, none⟩) := hdep 4 20 rfl (by kernel_rfl)
      have e0' : a'.tmps[20]?.getD undef = .pointer (some ⟨Rb, 4, none⟩) := by simpa using e0
      unfold Oper.wp
      go_simp
      exact hK _ _ rfl (GM.step (unhide HK11_12) hRR (Below.refl _ _) 5 21 _ (by decide) (by decide) (by decide)) (fun _ _ h => h)
    · cases ho
      cases hd
      have e0 : a'.tmps.getD 17 undef = .agg #[.string p.t, .string p.i] := hdep 1 17 rfl (by kernel_rfl)
      have e0' : a'.tmps[17]?.getD undef = .agg #[.string p.t, .string p.i] := by simpa using e0
      have e1 : a'.tmps.getD 19 undef = .agg #[.string a.t, .string a.i] := hdep 3 19 rfl (by kernel_rfl)
      have e1' : a'.tmps[19]?.getD undef = .agg #[.string a.t, .string a.i] := by simpa using e1
      have e2 : a'.tmps.getD 21 undef = .agg #[.string r.t, .string r.i] := hdep 5 21 rfl (by kernel_rfl)
      have e2' : a'.tmps[21]?.getD undef = .agg #[.string r.t, .string r.i] := by simpa using e2
      clear rq0' rq1' rq2' rq3' rq4' rq5'
      have hb0 : 17 < a'.tmps.size := by rw [hsz]; first | decide | simp
      have e0'' : a'.tmps[17] = .agg #[.string p.t, .string p.i] := by simpa [hb0] using e0
      have hb1 : 19 < a'.tmps.size := by rw [hsz]; first | decide | simp
      have e1'' : a'.tmps[19] = .agg #[.string a.t, .string a.i] := by simpa [hb1] using e1
      have hb2 : 21 < a'.tmps.size := by rw [hsz]; first | decide | simp
      have e2'' : a'.tmps[21] = .agg #[.string r.t, .string r.i] := by simpa [hb2] using e2
      unfold Oper.wp
      go_simp
      exact hK _ _ ⟨w'.heap.size, Nat.zero_le _, rfl, alloc_heap _ _⟩ (GM.step (unhide HK11_12) hRR (ev1 _ _) 6 22 _ (by decide) (by decide) (by decide)) (SpS.up (ev1 _ _))
    · cases ho
      cases hd
      have e0 := hs1
      clear rq0' rq1' rq2' rq3' rq4' rq5'
      unfold Oper.wp
      go_simp
      exact hK _ _ rfl (GM.step (unhide HK11_12) hRR (Below.refl _ _) 7 23 _ (by decide) (by decide) (by decide)) (fun _ _ h => h)
    · cases ho
      cases hd
      have e0 : a'.tmps.getD 23 undef = .int .i64 n := hdep 7 23 rfl (by kernel_rfl)
      have e0' : a'.tmps[23]?.getD undef = .int .i64 n := by simpa using e0
      clear rq0' rq1' rq2' rq3' rq4' rq5'
      unfold Oper.wp
      go_simp
      refine (CW w').mono ?_
      rintro e w9 ⟨rfl, hw9⟩
      subst hw9
      exact hK _ _ rfl (GM.step (unhide HK11_12) hRR (Below.refl _ _) 8 24 _ (by decide) (by decide) (by decide)) (fun _ _ h => h)
    · cases ho
      cases hd
      obtain ⟨b0, hB0, e0, ho0⟩ : (.blk (0) (fun b => .slice (some ⟨b, 0, none⟩) 3 3) (.cells #[.string p.t, .string p.i, .string a.t, .string a.i, .string r.t, .string r.i] 25 (0, 0)) : Sv).sp (a'.tmps.getD 22 undef) w' := hdep 6 22 rfl (by kernel_rfl)
      have e0' : a'.tmps[22]?.getD undef = .slice (some ⟨b0, 0, none⟩) 3 3 := by simpa using e0
      have Ho0 := hide ho0
      have e1 : a'.tmps.getD 24 undef = .int .i64 (k : Nat) := hdep 8 24 rfl (by kernel_rfl)
      have e1' : a'.tmps[24]?.getD undef = .int .i64 (k : Nat) := by simpa using e1
      clear ho0 rq0' rq1' rq2' rq3' rq4' rq5'
      unfold Oper.wp
      go_simp
      exact hK _ _ ⟨b0, hB0, rfl, unhide Ho0⟩ (GM.step (unhide HK11_12) hRR (Below.refl _ _) 9 25 _ (by decide) (by decide) (by decide)) (fun _ _ h => h)
    · cases ho
      cases hd
      obtain ⟨b0, hB0, e0, ho0⟩ : (.blk (0) (fun b => .pointer (some ⟨b, k * 2, none⟩)) (.cells #[.string p.t, .string p.i, .string a.t, .string a.i, .string r.t, .string r.i] 25 (0, 0)) : Sv).sp (a'.tmps.getD 25 undef) w' := hdep 9 25 rfl (by kernel_rfl)
      have e0' : a'.tmps[25]?.getD undef = .pointer (some ⟨b0, k * 2, none⟩) := by simpa using e0
      have Ho0 := hide ho0
      obtain ⟨y0, y1⟩ := unhide HUC _ _ ho0
      clear ho0 rq0' rq1' rq2' rq3' rq4' rq5'
      unfold Oper.wp
      go_simp
      exact hK _ _ rfl (GM.step (unhide HK11_12) hRR (Below.refl _ _) 10 26 _ (by decide) (by decide) (by decide)) (fun _ _ h => h)
    · cases ho
      cases hd
      clear rq0' rq1' rq2' rq3' rq4' rq5'
      unfold Oper.wp
      go_simp
      exact hK _ _ trivial (hRR.alloc (by decide) hL (by rw [hsz]; first | decide | simp)) (SpS.up (ev1 _ _))
    · cases hd
  · intro q o ho hd L a' w' hL hw hRR hdep K hK
    have hqN : q < 13 := (List.getElem?_eq_some_iff.1 ho).1
    have hR := hRR.below
    have rq0' := (hR.cell (p := ⟨Rb, 0, none⟩) hRb).trans rq0
    have rq1' := (hR.cell (p := ⟨Rb, 1, none⟩) hRb).trans rq1
    have rq2' := (hR.cell (p := ⟨Rb, 2, none⟩) hRb).trans rq2
    have rq3' := (hR.cell (p := ⟨Rb, 3, none⟩) hRb).trans rq3
    have rq4' := (hR.cell (p := ⟨Rb, 4, none⟩) hRb).trans rq4
    have rq5' := (hR.cell (p := ⟨Rb, 5, none⟩) hRb).trans rq5
    have hc : q = 0 ∨ q = 1 ∨ q = 2 ∨ q = 3 ∨ q = 4 ∨ q = 5 ∨ q = 6 ∨ q = 7 ∨ q = 8 ∨ q = 9 ∨ q = 10 ∨ q = 11 ∨ q = 12 := by omega
    rcases hc with rfl | rfl | rfl | rfl | rfl | rfl | rfl | rfl | rfl | rfl | rfl | rfl | rfl
    · cases hd
    · cases hd
    · cases hd
    · cases hd
    · cases hd
    · cases hd
    · cases hd
    · cases hd
    · cases hd
    · cases hd
    · cases hd
    · cases hd
    · cases ho
      have e0 : a'.tmps.getD 26 undef = .agg #[.string u.t, .string u.i] := hdep 10 26 rfl (by kernel_rfl)
      have e0' : a'.tmps[26]?.getD undef = .agg #[.string u.t, .string u.i] := by simpa using e0
      clear rq0' rq1' rq2' rq3' rq4' rq5'
      obtain ⟨V, eV, hVle, hVz, hS⟩ := hRR.store (hw 11 (by kernel_rfl)) hL
      have d0 : w'.cell? ⟨V, 0, none⟩ = some (.string ⟨#[]⟩) := by rw [Lib.cell_of_heap hVz]; rfl
      have d1 : w'.cell? ⟨V, 1, none⟩ = some (.string ⟨#[]⟩) := by rw [Lib.cell_of_heap hVz]; rfl
      have df : ∀ o, w'.frozen? ⟨V, o, none⟩ = false := fun o => Lib.frozen_of_heap hVz o
      have hn : (w'.setCells V 0 [.string u.t, .string u.i]).heap[V]? = some (.cells #[.string u.t, .string u.i] 25 (0, 0)) := heap_setCell_same _ V 1 _ _ (.string u.i) (heap_setCell_same w' V 0 _ _ (.string u.t) hVz)
      have HP := hide (And.intro (hS (w'.setCells V 0 [.string u.t, .string u.i]) (belowSetCells _ _ _ hRR.below hVle) hn) (SpS.kept 2 25 hVz rfl (fun k hk => heap_setCells hk [.string u.t, .string u.i] 0 w') (l := [.eq (.pointer (some ⟨Rb, 0, none⟩)), .eq (.agg #[.string p.t, .string p.i]), .eq (.pointer (some ⟨Rb, 2, none⟩)), .eq (.agg #[.string a.t, .string a.i]), .eq (.pointer (some ⟨Rb, 4, none⟩)), .eq (.agg #[.string r.t, .string r.i]), .blk (0) (fun b => .slice (some ⟨b, 0, none⟩) 3 3) (.cells #[.string p.t, .string p.i, .string a.t, .string a.i, .string r.t, .string r.i] 25 (0, 0)), .eq (.int .i64 n), .eq (.int .i64 (k : Nat)), .blk (0) (fun b => .pointer (some ⟨b, k * 2, none⟩)) (.cells #[.string p.t, .string p.i, .string a.t, .string a.i, .string r.t, .string r.i] 25 (0, 0)), .eq (.agg #[.string u.t, .string u.i]), .any, .any]) rfl))
      have e1 := eV
      clear hVz hS hn
      have hK : ∀ v, K (a'.put none v) (w'.setCells V 0 [.string u.t, .string u.i]) := fun v => hK _ (unhide HP).1 (unhide HP).2 v
      unfold Oper.wp
      go_simp
      exact hK undef
  · intro v L w' hLa hRR hv
    have bE := hRR.below
    obtain ⟨V, eV, hVle, hVF⟩ := hRR.full (hLa 12 (by decide))
    have f0 : v 0 = .pointer (some ⟨Rb, 0, none⟩) := (hv 0 16 rfl).1
    have f1 : v 1 = .agg #[.string p.t, .string p.i] := (hv 1 17 rfl).1
    have f2 : v 2 = .pointer (some ⟨Rb, 2, none⟩) := (hv 2 18 rfl).1
    have f3 : v 3 = .agg #[.string a.t, .string a.i] := (hv 3 19 rfl).1
    have f4 : v 4 = .pointer (some ⟨Rb, 4, none⟩) := (hv 4 20 rfl).1
    have f5 : v 5 = .agg #[.string r.t, .string r.i] := (hv 5 21 rfl).1
    have f7 : v 7 = .int .i64 n := (hv 7 23 rfl).1
    have f8 : v 8 = .int .i64 (k : Nat) := (hv 8 24 rfl).1
    have f10 : v 10 = .agg #[.string u.t, .string u.i] := (hv 10 26 rfl).1
    obtain ⟨b6, hB6, f6, ho6⟩ : (.blk (0) (fun b => .slice (some ⟨b, 0, none⟩) 3 3) (.cells #[.string p.t, .string p.i, .string a.t, .string a.i, .string r.t, .string r.i] 25 (0, 0)) : Sv).sp (v 6) w' := (hv 6 22 rfl).1
    obtain ⟨b9, hB9, f9, ho9⟩ : (.blk (0) (fun b => .pointer (some ⟨b, k * 2, none⟩)) (.cells #[.string p.t, .string p.i, .string a.t, .string a.i, .string r.t, .string r.i] 25 (0, 0)) : Sv).sp (v 9) w' := (hv 9 25 rfl).1
    have f11 : v 11 = .pointer (some ⟨V, 0, none⟩) := ((hv 11 6 rfl).2).symm.trans eV
    clear eV
    clear hRR hv hLa
    simp only [putAll, dstOf, List.getElem?_cons_zero, List.getElem?_cons_succ, Option.bind_some, List.length_cons, List.length_nil, f0, f1, f2, f3, f4, f5, f6, f7, f8, f9, f10, f11]
    clear f0 f1 f2 f3 f4 f5 f6 f7 f8 f9 f10 f11
    simp only [Act.put, List.setIfInBounds_toArray, List.set_cons_succ, List.set_cons_zero]
    generalize v 12 = vv12
    obtain ⟨w5, hw5⟩ : ∃ q, q = w' := ⟨_, rfl⟩
    subst hw5
    obtain ⟨Ub, hUb⟩ : ∃ q, q = V := ⟨_, rfl⟩
    subst hUb
    have hUU : w5.heap[Ub]? = some (.cells #[.string u.t, .string u.i] 25 (0, 0)) := hVF
    have uq0 : w5.cell? ⟨Ub, 0, none⟩ = some (.string u.t) := by rw [Lib.cell_of_heap hUU]; rfl
    have uq1 : w5.cell? ⟨Ub, 1, none⟩ = some (.string u.i) := by rw [Lib.cell_of_heap hUU]; rfl
    have hUb : Ub < w5.heap.size := (Array.getElem?_eq_some_iff.1 hUU).1
    have HU := hide hUU
    have HB := hide bE
    have rz0 := (bE.cell (p := ⟨Rb, 0, none⟩) hRb).trans rq0
    have rz1 := (bE.cell (p := ⟨Rb, 1, none⟩) hRb).trans rq1
    have rz2 := (bE.cell (p := ⟨Rb, 2, none⟩) hRb).trans rq2
    have rz3 := (bE.cell (p := ⟨Rb, 3, none⟩) hRb).trans rq3
    have rz4 := (bE.cell (p := ⟨Rb, 4, none⟩) hRb).trans rq4
    have rz5 := (bE.cell (p := ⟨Rb, 5, none⟩) hRb).trans rq5
    have hRb2 := Nat.lt_of_lt_of_le hRb bE.size
    clear hVF hUU hVle bE hRb rq0 rq1 rq2 rq3 rq4 rq5 ho6 ho9 HUC
    have rq0 := rz0
    clear rz0
    have rq1 := rz1
    clear rz1
    have rq2 := rz2
    clear rz2
    have rq3 := rz3
    clear rz3
    have rq4 := rz4
    clear rz4
    have rq5 := rz5
    clear rz5
    have hRb := hRb2
    clear hRb2 HK11_12
    have HK11_12 := hide (show ∀ (V : Nat) (w1 w2 : World), Below w1.heap.size w1 w2 → (fun V w' => w'.heap[V]? = some (.cells #[.int .i64 4, .bool false, .int .i64 0, .string ⟨#[]⟩, .string u.t, .string u.i, .slice none 0 0] 37 (0, 0))) V w1 → (fun V w' => w'.heap[V]? = some (.cells #[.int .i64 4, .bool false, .int .i64 0, .string ⟨#[]⟩, .string u.t, .string u.i, .slice none 0 0] 37 (0, 0))) V w2 from fun _ _ _ hb h => kept_of_below hb h)
    go_upto_region 5 with fail
    refine wp_specsD (SpS [.eq (.agg #[.string p.t, .string p.i, .string a.t, .string a.i, .string r.t, .string r.i]), .blk (0) (fun b => .slice (some ⟨b, 0, none⟩) 3 3) (.cells #[.string ⟨#[112, 114, 105, 110, 99, 105, 112, 97, 108]⟩, .string ⟨#[97, 99, 116, 105, 111, 110]⟩, .string ⟨#[114, 101, 115, 111, 117, 114, 99, 101]⟩] 9 (0, 0)), .eq (.int .i64 n), .eq (.int .i64 (k : Nat)), .blk (0) (fun b => .pointer (some ⟨b, k, none⟩)) (.cells #[.string ⟨#[112, 114, 105, 110, 99, 105, 112, 97, 108]⟩, .string ⟨#[97, 99, 116, 105, 111, 110]⟩, .string ⟨#[114, 101, 115, 111, 117, 114, 99, 101]⟩] 9 (0, 0)), .eq (.string nm), .eq (.agg #[.int .i64 5, .bool false, .int .i64 0, .string nm, .string ⟨#[]⟩, .string ⟨#[]⟩, .slice none 0 0]), .eq (.tuple #[.agg #[.int .i64 4, .bool false, .int .i64 0, .string ⟨#[]⟩, .string u.t, .string u.i, .slice none 0 0], .int .i64 0]), .eq (.tuple #[.agg #[.int .i64 4, .bool false, .int .i64 0, .string ⟨#[]⟩, .string u.t, .string u.i, .slice none 0 0], .int .i64 0]), .eq (.agg #[.int .i64 4, .bool false, .int .i64 0, .string ⟨#[]⟩, .string u.t, .string u.i, .slice none 0 0]), .eq (.int .i64 0), .any, .any, .eq (.int .i64 0)]) (GM 11 12 7 w5 #[.int .i64 0, .bool false, .int .i64 0, .string ⟨#[]⟩, .string ⟨#[]⟩, .string ⟨#[]⟩, .slice none 0 0] 37 (fun V w' => w'.heap[V]? = some (.cells #[.int .i64 4, .bool false, .int .i64 0, .string ⟨#[]⟩, .string u.t, .string u.i, .slice none 0 0] 37 (0, 0)))) (by kernel_rfl) (by kernel_rfl) (by kernel_rfl) (GM.start _ w5) ?_ ?_ ?_
    · intro q o d ho hd L a' w' hL hw hRR hdep hslot hsz K hK
      have hqN : q < 14 := dstOf_lt hd
      have hR := hRR.below
      have rq0' := (hR.cell (p := ⟨Rb, 0, none⟩) hRb).trans rq0
      have rq1' := (hR.cell (p := ⟨Rb, 1, none⟩) hRb).trans rq1
      have rq2' := (hR.cell (p := ⟨Rb, 2, none⟩) hRb).trans rq2
      have rq3' := (hR.cell (p := ⟨Rb, 3, none⟩) hRb).trans rq3
      have rq4' := (hR.cell (p := ⟨Rb, 4, none⟩) hRb).trans rq4
      have rq5' := (hR.cell (p := ⟨Rb, 5, none⟩) hRb).trans rq5
      have uq0' := (hR.cell (p := ⟨Ub, 0, none⟩) hUb).trans uq0
      have uq1' := (hR.cell (p := ⟨Ub, 1, none⟩) hUb).trans uq1
      have hs5 : a'.tmps.getD 5 undef = .pointer (some ⟨Rb, 0, none⟩) := hslot 5 (fun q h => by have hl := dstOf_lt h; match q, hl with | 0, _ => cases h | 1, _ => cases h | 2, _ => cases h | 3, _ => cases h | 4, _ => cases h | 5, _ => cases h | 6, _ => cases h | 7, _ => cases h | 8, _ => cases h | 9, _ => cases h | 10, _ => cases h | 11, _ => cases h | 12, _ => cases h | 13, _ => cases h)
      have hs1 : a'.tmps.getD 1 undef = .int .i64 n := hslot 1 (fun q h => by have hl := dstOf_lt h; match q, hl with | 0, _ => cases h | 1, _ => cases h | 2, _ => cases h | 3, _ => cases h | 4, _ => cases h | 5, _ => cases h | 6, _ => cases h | 7, _ => cases h | 8, _ => cases h | 9, _ => cases h | 10, _ => cases h | 11, _ => cases h | 12, _ => cases h | 13, _ => cases h)
      have hc : q = 0 ∨ q = 1 ∨ q = 2 ∨ q = 3 ∨ q = 4 ∨ q = 5 ∨ q = 6 ∨ q = 7 ∨ q = 8 ∨ q = 9 ∨ q = 10 ∨ q = 11 ∨ q = 12 ∨ q = 13 := by omega
      rcases hc with rfl | rfl | rfl | rfl | rfl | rfl | rfl | rfl | rfl | rfl | rfl | rfl | rfl | rfl
      · cases ho
        cases hd
        have e0 := hs5
        clear uq0' uq1'
        unfold Oper.wp
        go_simp
        exact hK _ _ rfl (GM.step (unhide HK11_12) hRR (Below.refl _ _) 0 28 _ (by decide) (by decide) (by decide)) (fun _ _ h => h)
      · cases ho
        cases hd
        clear rq0' rq1' rq2' rq3' rq4' rq5' uq0' uq1'
        unfold Oper.wp
        go_simp
        exact hK _ _ ⟨w'.heap.size, Nat.zero_le _, rfl, alloc_heap _ _⟩ (GM.step (unhide HK11_12) hRR (ev1 _ _) 1 29 _ (by decide) (by decide) (by decide)) (SpS.up (ev1 _ _))
      · cases ho
        cases hd
        have e0 := hs1
        clear rq0' rq1' rq2' rq3' rq4' rq5' uq0' uq1'
        unfold Oper.wp
        go_simp
        exact hK _ _ rfl (GM.step (unhide HK11_12) hRR (Below.refl _ _) 2 30 _ (by decide) (by decide) (by decide)) (fun _ _ h => h)
      · cases ho
        cases hd
        have e0 : a'.tmps.getD 30 undef = .int .i64 n := hdep 2 30 rfl (by kernel_rfl)
        have e0' : a'.tmps[30]?.getD undef = .int .i64 n := by simpa using e0
        clear rq0' rq1' rq2' rq3' rq4' rq5' uq0' uq1'
        unfold Oper.wp
        go_simp
        refine (CW w').mono ?_
        rintro e w9 ⟨rfl, hw9⟩
        subst hw9
        exact hK _ _ rfl (GM.step (unhide HK11_12) hRR (Below.refl _ _) 3 31 _ (by decide) (by decide) (by decide)) (fun _ _ h => h)
      · cases ho
        cases hd
        obtain ⟨b0, hB0, e0, ho0⟩ : (.blk (0) (fun b => .slice (some ⟨b, 0, none⟩) 3 3) (.cells #[.string ⟨#[112, 114, 105, 110, 99, 105, 112, 97, 108]⟩, .string ⟨#[97, 99, 116, 105, 111, 110]⟩, .string ⟨#[114, 101, 115, 111, 117, 114, 99, 101]⟩] 9 (0, 0)) : Sv).sp (a'.tmps.getD 29 undef) w' := hdep 1 29 rfl (by kernel_rfl)
        have e0' : a'.tmps[29]?.getD undef = .slice (some ⟨b0, 0, none⟩) 3 3 := by simpa using e0
        have Ho0 := hide ho0
        have e1 : a'.tmps.getD 31 undef = .int .i64 (k : Nat) := hdep 3 31 rfl (by kernel_rfl)
        have e1' : a'.tmps[31]?.getD undef = .int .i64 (k : Nat) := by simpa using e1
        clear ho0 rq0' rq1' rq2' rq3' rq4' rq5' uq0' uq1'
        unfold Oper.wp
        go_simp
        exact hK _ _ ⟨b0, hB0, rfl, unhide Ho0⟩ (GM.step (unhide HK11_12) hRR (Below.refl _ _) 4 32 _ (by decide) (by decide) (by decide)) (fun _ _ h => h)
      · cases ho
        cases hd
        obtain ⟨b0, hB0, e0, ho0⟩ : (.blk (0) (fun b => .pointer (some ⟨b, k, none⟩)) (.cells #[.string ⟨#[112, 114, 105, 110, 99, 105, 112, 97, 108]⟩, .string ⟨#[97, 99, 116, 105, 111, 110]⟩, .string ⟨#[114, 101, 115, 111, 117, 114, 99, 101]⟩] 9 (0, 0)) : Sv).sp (a'.tmps.getD 32 undef) w' := hdep 4 32 rfl (by kernel_rfl)
        have e0' : a'.tmps[32]?.getD undef = .pointer (some ⟨b0, k, none⟩) := by simpa using e0
        have Ho0 := hide ho0
        have y0 := unhide HNC _ _ ho0
        clear ho0 rq0' rq1' rq2' rq3' rq4' rq5' uq0' uq1'
        unfold Oper.wp
        go_simp
        exact hK _ _ rfl (GM.step (unhide HK11_12) hRR (Below.refl _ _) 5 33 _ (by decide) (by decide) (by decide)) (fun _ _ h => h)
      · cases ho
        cases hd
        have e0 : a'.tmps.getD 33 undef = .string nm := hdep 5 33 rfl (by kernel_rfl)
        have e0' : a'.tmps[33]?.getD undef = .string nm := by simpa using e0
        clear rq0' rq1' rq2' rq3' rq4' rq5' uq0' uq1'
        have hb0 : 33 < a'.tmps.size := by rw [hsz]; first | decide | simp
        have e0'' : a'.tmps[33] = .string nm := by simpa [hb0] using e0
        unfold Oper.wp
        go_simp
        exact hK _ _ rfl (GM.step (unhide HK11_12) hRR (Below.refl _ _) 6 34 _ (by decide) (by decide) (by decide)) (fun _ _ h => h)
      · cases ho
        cases hd
        have e0 : a'.tmps.getD 28 undef = .agg #[.string p.t, .string p.i, .string a.t, .string a.i, .string r.t, .string r.i] := hdep 0 28 rfl (by kernel_rfl)
        have e0' : a'.tmps[28]?.getD undef = .agg #[.string p.t, .string p.i, .string a.t, .string a.i, .string r.t, .string r.i] := by simpa using e0
        have e1 : a'.tmps.getD 34 undef = .agg #[.int .i64 5, .bool false, .int .i64 0, .string nm, .string ⟨#[]⟩, .string ⟨#[]⟩, .slice none 0 0] := hdep 6 34 rfl (by kernel_rfl)
        have e1' : a'.tmps[34]?.getD undef = .agg #[.int .i64 5, .bool false, .int .i64 0, .string nm, .string ⟨#[]⟩, .string ⟨#[]⟩, .slice none 0 0] := by simpa using e1
        clear rq0' rq1' rq2' rq3' rq4' rq5' uq0' uq1'
        unfold Oper.wp
        go_simp
        refine (unhide CO1 w' ((unhide HF).below ((unhide HB).trans (hR.mono (unhide HB).size)))).mono ?_
        rintro e w9 ⟨rfl, b9⟩
        exact hK _ _ rfl (GM.step (unhide HK11_12) hRR b9 7 35 _ (by decide) (by decide) (by decide)) (SpS.up b9)
      · cases ho
        cases hd
        have e0 : a'.tmps.getD 35 undef = .tuple #[.agg #[.int .i64 4, .bool false, .int .i64 0, .string ⟨#[]⟩, .string u.t, .string u.i, .slice none 0 0], .int .i64 0] := hdep 7 35 rfl (by kernel_rfl)
        have e0' : a'.tmps[35]?.getD undef = .tuple #[.agg #[.int .i64 4, .bool false, .int .i64 0, .string ⟨#[]⟩, .string u.t, .string u.i, .slice none 0 0], .int .i64 0] := by simpa using e0
        clear rq0' rq1' rq2' rq3' rq4' rq5' uq0' uq1'
        unfold Oper.wp
        go_simp
        exact hK _ _ rfl (GM.step (unhide HK11_12) hRR (Below.refl _ _) 8 27 _ (by decide) (by decide) (by decide)) (fun _ _ h => h)
      · cases ho
        cases hd
        have e0 : a'.tmps.getD 27 undef = .tuple #[.agg #[.int .i64 4, .bool false, .int .i64 0, .string ⟨#[]⟩, .string u.t, .string u.i, .slice none 0 0], .int .i64 0] := hdep 8 27 rfl (by kernel_rfl)
        have e0' : a'.tmps[27]?.getD undef = .tuple #[.agg #[.int .i64 4, .bool false, .int .i64 0, .string ⟨#[]⟩, .string u.t, .string u.i, .slice none 0 0], .int .i64 0] := by simpa using e0
        clear rq0' rq1' rq2' rq3' rq4' rq5' uq0' uq1'
        unfold Oper.wp
        go_simp
        exact hK _ _ rfl (GM.step (unhide HK11_12) hRR (Below.refl _ _) 9 36 _ (by decide) (by decide) (by decide)) (fun _ _ h => h)
      · cases ho
        cases hd
        have e0 : a'.tmps.getD 27 undef = .tuple #[.agg #[.int .i64 4, .bool false, .int .i64 0, .string ⟨#[]⟩, .string u.t, .string u.i, .slice none 0 0], .int .i64 0] := hdep 8 27 rfl (by kernel_rfl)
        have e0' : a'.tmps[27]?.getD undef = .tuple #[.agg #[.int .i64 4, .bool false, .int .i64 0, .string ⟨#[]⟩, .string u.t, .string u.i, .slice none 0 0], .int .i64 0] := by simpa using e0
        clear rq0' rq1' rq2' rq3' rq4' rq5' uq0' uq1'
        unfold Oper.wp
        go_simp
        exact hK _ _ rfl (GM.step (unhide HK11_12) hRR (Below.refl _ _) 10 37 _ (by decide) (by decide) (by decide)) (fun _ _ h => h)
      · cases ho
        cases hd
        clear rq0' rq1' rq2' rq3' rq4' rq5' uq0' uq1'
        unfold Oper.wp
        go_simp
        exact hK _ _ trivial (hRR.alloc (by decide) hL (by rw [hsz]; first | decide | simp)) (SpS.up (ev1 _ _))
      · cases hd
      · cases ho
        cases hd
        have e0 : a'.tmps.getD 37 undef = .int .i64 0 := hdep 10 37 rfl (by kernel_rfl)
        have e0' : a'.tmps[37]?.getD undef = .int .i64 0 := by simpa using e0
        clear rq0' rq1' rq2' rq3' rq4' rq5' uq0' uq1'
        unfold Oper.wp
        go_simp
        exact hK _ _ rfl (GM.step (unhide HK11_12) hRR (Below.refl _ _) 13 8 _ (by decide) (by decide) (by decide)) (fun _ _ h => h)
    · intro q o ho hd L a' w' hL hw hRR hdep K hK
      have hqN : q < 14 := (List.getElem?_eq_some_iff.1 ho).1
      have hR := hRR.below
      have rq0' := (hR.cell (p := ⟨Rb, 0, none⟩) hRb).trans rq0
      have rq1' := (hR.cell (p := ⟨Rb, 1, none⟩) hRb).trans rq1
      have rq2' := (hR.cell (p := ⟨Rb, 2, none⟩) hRb).trans rq2
      have rq3' := (hR.cell (p := ⟨Rb, 3, none⟩) hRb).trans rq3
      have rq4' := (hR.cell (p := ⟨Rb, 4, none⟩) hRb).trans rq4
      have rq5' := (hR.cell (p := ⟨Rb, 5, none⟩) hRb).trans rq5
      have uq0' := (hR.cell (p := ⟨Ub, 0, none⟩) hUb).trans uq0
      have uq1' := (hR.cell (p := ⟨Ub, 1, none⟩) hUb).trans uq1
      have hc : q = 0 ∨ q = 1 ∨ q = 2 ∨ q = 3 ∨ q = 4 ∨ q = 5 ∨ q = 6 ∨ q = 7 ∨ q = 8 ∨ q = 9 ∨ q = 10 ∨ q = 11 ∨ q = 12 ∨ q = 13 := by omega
      rcases hc with rfl | rfl | rfl | rfl | rfl | rfl | rfl | rfl | rfl | rfl | rfl | rfl | rfl | rfl
      · cases hd
      · cases hd
      · cases hd
      · cases hd
      · cases hd
      · cases hd
      · cases hd
      · cases hd
      · cases hd
      · cases hd
      · cases hd
      · cases hd
      · cases ho
        have e0 : a'.tmps.getD 36 undef = .agg #[.int .i64 4, .bool false, .int .i64 0, .string ⟨#[]⟩, .string u.t, .string u.i, .slice none 0 0] := hdep 9 36 rfl (by kernel_rfl)
        have e0' : a'.tmps[36]?.getD undef = .agg #[.int .i64 4, .bool false, .int .i64 0, .string ⟨#[]⟩, .string u.t, .string u.i, .slice none 0 0] := by simpa using e0
        clear rq0' rq1' rq2' rq3' rq4' rq5' uq0' uq1'
        obtain ⟨V, eV, hVle, hVz, hS⟩ := hRR.store (hw 11 (by kernel_rfl)) hL
        have d0 : w'.cell? ⟨V, 0, none⟩ = some (.int .i64 0) := by rw [Lib.cell_of_heap hVz]; rfl
        have d1 : w'.cell? ⟨V, 1, none⟩ = some (.bool false) := by rw [Lib.cell_of_heap hVz]; rfl
        have d2 : w'.cell? ⟨V, 2, none⟩ = some (.int .i64 0) := by rw [Lib.cell_of_heap hVz]; rfl
        have d3 : w'.cell? ⟨V, 3, none⟩ = some (.string ⟨#[]⟩) := by rw [Lib.cell_of_heap hVz]; rfl
        have d4 : w'.cell? ⟨V, 4, none⟩ = some (.string ⟨#[]⟩) := by rw [Lib.cell_of_heap hVz]; rfl
        have d5 : w'.cell? ⟨V, 5, none⟩ = some (.string ⟨#[]⟩) := by rw [Lib.cell_of_heap hVz]; rfl
        have d6 : w'.cell? ⟨V, 6, none⟩ = some (.slice none 0 0) := by rw [Lib.cell_of_heap hVz]; rfl
        have df : ∀ o, w'.frozen? ⟨V, o, none⟩ = false := fun o => Lib.frozen_of_heap hVz o
        have HP := hide (And.intro (hS _ (set7S_below hRR.below hVle (.int .i64 4) (.bool false) (.int .i64 0) (.string ⟨#[]⟩) (.string u.t) (.string u.i) (.slice none 0 0)) (set7S_at hVz (.int .i64 4) (.bool false) (.int .i64 0) (.string ⟨#[]⟩) (.string u.t) (.string u.i) (.slice none 0 0))) (SpS.kept 7 37 hVz rfl (fun k hk => set7S_heap w' V k (.int .i64 4) (.bool false) (.int .i64 0) (.string ⟨#[]⟩) (.string u.t) (.string u.i) (.slice none 0 0) hk) (l := [.eq (.agg #[.string p.t, .string p.i, .string a.t, .string a.i, .string r.t, .string r.i]), .blk (0) (fun b => .slice (some ⟨b, 0, none⟩) 3 3) (.cells #[.string ⟨#[112, 114, 105, 110, 99, 105, 112, 97, 108]⟩, .string ⟨#[97, 99, 116, 105, 111, 110]⟩, .string ⟨#[114, 101, 115, 111, 117, 114, 99, 101]⟩] 9 (0, 0)), .eq (.int .i64 n), .eq (.int .i64 (k : Nat)), .blk (0) (fun b => .pointer (some ⟨b, k, none⟩)) (.cells #[.string ⟨#[112, 114, 105, 110, 99, 105, 112, 97, 108]⟩, .string ⟨#[97, 99, 116, 105, 111, 110]⟩, .string ⟨#[114, 101, 115, 111, 117, 114, 99, 101]⟩] 9 (0, 0)), .eq (.string nm), .eq (.agg #[.int .i64 5, .bool false, .int .i64 0, .string nm, .string ⟨#[]⟩, .string ⟨#[]⟩, .slice none 0 0]), .eq (.tuple #[.agg #[.int .i64 4, .bool false, .int .i64 0, .string ⟨#[]⟩, .string u.t, .string u.i, .slice none 0 0], .int .i64 0]), .eq (.tuple #[.agg #[.int .i64 4, .bool false, .int .i64 0, .string ⟨#[]⟩, .string u.t, .string u.i, .slice none 0 0], .int .i64 0]), .eq (.agg #[.int .i64 4, .bool false, .int .i64 0, .string ⟨#[]⟩, .string u.t, .string u.i, .slice none 0 0]), .eq (.int .i64 0), .any, .any, .eq (.int .i64 0)]) rfl))
        have e1 := eV
        clear hVz hS
        unfold Oper.wp
        go_simp
        exact hK _ (unhide HP).1 (unhide HP).2 undef
      · cases hd
    · intro v L w' hLa hRR hv
      have bE := hRR.below
      obtain ⟨V, eV, hVle, hVF⟩ := hRR.full (hLa 12 (by decide))
      have f0 : v 0 = .agg #[.string p.t, .string p.i, .string a.t, .string a.i, .string r.t, .string r.i] := (hv 0 28 rfl).1
      have f2 : v 2 = .int .i64 n := (hv 2 30 rfl).1
      have f3 : v 3 = .int .i64 (k : Nat) := (hv 3 31 rfl).1
      have f5 : v 5 = .string nm := (hv 5 33 rfl).1
      have f6 : v 6 = .agg #[.int .i64 5, .bool false, .int .i64 0, .string nm, .string ⟨#[]⟩, .string ⟨#[]⟩, .slice none 0 0] := (hv 6 34 rfl).1
      have f7 : v 7 = .tuple #[.agg #[.int .i64 4, .bool false, .int .i64 0, .string ⟨#[]⟩, .string u.t, .string u.i, .slice none 0 0], .int .i64 0] := (hv 7 35 rfl).1
      have f8 : v 8 = .tuple #[.agg #[.int .i64 4, .bool false, .int .i64 0, .string ⟨#[]⟩, .string u.t, .string u.i, .slice none 0 0], .int .i64 0] := (hv 8 27 rfl).1
      have f9 : v 9 = .agg #[.int .i64 4, .bool false, .int .i64 0, .string ⟨#[]⟩, .string u.t, .string u.i, .slice none 0 0] := (hv 9 36 rfl).1
      have f10 : v 10 = .int .i64 0 := (hv 10 37 rfl).1
      have f13 : v 13 = .int .i64 0 := (hv 13 8 rfl).1
      obtain ⟨b1, hB1, f1, ho1⟩ : (.blk (0) (fun b => .slice (some ⟨b, 0, none⟩) 3 3) (.cells #[.string ⟨#[112, 114, 105, 110, 99, 105, 112, 97, 108]⟩, .string ⟨#[97, 99, 116, 105, 111, 110]⟩, .string ⟨#[114, 101, 115, 111, 117, 114, 99, 101]⟩] 9 (0, 0)) : Sv).sp (v 1) w' := (hv 1 29 rfl).1
      obtain ⟨b4, hB4, f4, ho4⟩ : (.blk (0) (fun b => .pointer (some ⟨b, k, none⟩)) (.cells #[.string ⟨#[112, 114, 105, 110, 99, 105, 112, 97, 108]⟩, .string ⟨#[97, 99, 116, 105, 111, 110]⟩, .string ⟨#[114, 101, 115, 111, 117, 114, 99, 101]⟩] 9 (0, 0)) : Sv).sp (v 4) w' := (hv 4 32 rfl).1
      have f11 : v 11 = .pointer (some ⟨V, 0, none⟩) := ((hv 11 7 rfl).2).symm.trans eV
      clear eV
      clear hRR hv hLa
      simp only [putAll, dstOf, List.getElem?_cons_zero, List.getElem?_cons_succ, Option.bind_some, List.length_cons, List.length_nil, f0, f1, f2, f3, f4, f5, f6, f7, f8, f9, f10, f11, f13]
      clear f0 f1 f2 f3 f4 f5 f6 f7 f8 f9 f10 f11 f13
      simp only [Act.put, List.setIfInBounds_toArray, List.set_cons_succ, List.set_cons_zero]
      generalize v 12 = vv12
      obtain ⟨w6, hw6⟩ : ∃ q, q = w' := ⟨_, rfl⟩
      subst hw6
      obtain ⟨Vb, hVb⟩ : ∃ q, q = V := ⟨_, rfl⟩
      subst hVb
      have hVV : w6.heap[Vb]? = some (.cells #[.int .i64 4, .bool false, .int .i64 0, .string ⟨#[]⟩, .string u.t, .string u.i, .slice none 0 0] 37 (0, 0)) := hVF
      have HV := hide hVV
      have HU2 := hide (kept_of_below bE (unhide HU))
      have HB2 := hide ((unhide HB).trans (bE.mono (unhide HB).size))
      have rz0 := (bE.cell (p := ⟨Rb, 0, none⟩) hRb).trans rq0
      have rz1 := (bE.cell (p := ⟨Rb, 1, none⟩) hRb).trans rq1
      have rz2 := (bE.cell (p := ⟨Rb, 2, none⟩) hRb).trans rq2
      have rz3 := (bE.cell (p := ⟨Rb, 3, none⟩) hRb).trans rq3
      have rz4 := (bE.cell (p := ⟨Rb, 4, none⟩) hRb).trans rq4
      have rz5 := (bE.cell (p := ⟨Rb, 5, none⟩) hRb).trans rq5
      have uz0 := (bE.cell (p := ⟨Ub, 0, none⟩) hUb).trans uq0
      have uz1 := (bE.cell (p := ⟨Ub, 1, none⟩) hUb).trans uq1
      have hRb2 := Nat.lt_of_lt_of_le hRb bE.size
      have hUb2 := Nat.lt_of_lt_of_le hUb bE.size
      clear hVF hVV hVle bE HB HU hRb hUb uq0 uq1 rq0 rq1 rq2 rq3 rq4 rq5 ho1 ho4
      have rq0 := rz0
      clear rz0
      have rq1 := rz1
      clear rz1
      have rq2 := rz2
      clear rz2
      have rq3 := rz3
      clear rz3
      have rq4 := rz4
      clear rz4
      have rq5 := rz5
      clear rz5
      have uq0 := uz0
      have uq1 := uz1
      have hRb := hRb2
      have hUb := hUb2
      have HB := HB2
      have HU := HU2
      clear uz0 uz1 hRb2 hUb2 HB2 HU2
      have HK15_16 := hide (show ∀ (V : Nat) (w1 w2 : World), Below w1.heap.size w1 w2 → (fun V w' => w'.heap[V]? = some (.cells #[.int .i64 1, .bool true, .int .i64 0, .string ⟨#[]⟩, .string ⟨#[]⟩, .string ⟨#[]⟩, .slice none 0 0] 37 (0, 0))) V w1 → (fun V w' => w'.heap[V]? = some (.cells #[.int .i64 1, .bool true, .int .i64 0, .string ⟨#[]⟩, .string ⟨#[]⟩, .string ⟨#[]⟩, .slice none 0 0] 37 (0, 0))) V w2 from fun _ _ _ hb h => kept_of_below hb h)
      go_upto_region 6 with fail
      refine wp_specsD (SpS [.eq (.agg #[.string p.t, .string p.i, .string a.t, .string a.i, .string r.t, .string r.i]), .eq (.agg #[.string u.t, .string u.i]), .eq (.agg #[.int .i64 4, .bool false, .int .i64 0, .string ⟨#[]⟩, .string u.t, .string u.i, .slice none 0 0]), .blk (0) (fun b => .slice (some ⟨b, 0, none⟩) 3 3) (.cells #[.string ⟨#[112, 114, 105, 110, 99, 105, 112, 97, 108]⟩, .string ⟨#[97, 99, 116, 105, 111, 110]⟩, .string ⟨#[114, 101, 115, 111, 117, 114, 99, 101]⟩] 9 (0, 0)), .eq (.int .i64 n), .eq (.int .i64 (k : Nat)), .blk (0) (fun b => .pointer (some ⟨b, k, none⟩)) (.cells #[.string ⟨#[112, 114, 105, 110, 99, 105, 112, 97, 108]⟩, .string ⟨#[97, 99, 116, 105, 111, 110]⟩, .string ⟨#[114, 101, 115, 111, 117, 114, 99, 101]⟩] 9 (0, 0)), .eq (.string nm), .eq (.agg #[.int .i64 5, .bool false, .int .i64 0, .string nm, .string ⟨#[]⟩, .string ⟨#[]⟩, .slice none 0 0]), .blk (0) (fun b => .slice (some ⟨b, 0, none⟩) 2 2) (.cells #[.int .i64 4, .bool false, .int .i64 0, .string ⟨#[]⟩, .string u.t, .string u.i, .slice none 0 0, .int .i64 5, .bool false, .int .i64 0, .string nm, .string ⟨#[]⟩, .string ⟨#[]⟩, .slice none 0 0] 44 (0, 0)), .blk (0) (fun b => .agg #[.int .i64 22, .bool false, .int .i64 0, .string ⟨#[]⟩, .string ⟨#[]⟩, .string ⟨#[]⟩, .slice (some ⟨b, 0, none⟩) 2 2]) (.cells #[.int .i64 4, .bool false, .int .i64 0, .string ⟨#[]⟩, .string u.t, .string u.i, .slice none 0 0, .int .i64 5, .bool false, .int .i64 0, .string nm, .string ⟨#[]⟩, .string ⟨#[]⟩, .slice none 0 0] 44 (0, 0)), .eq (.tuple #[.agg #[.int .i64 1, .bool true, .int .i64 0, .string ⟨#[]⟩, .string ⟨#[]⟩, .string ⟨#[]⟩, .slice none 0 0], .int .i64 0]), .eq (.tuple #[.agg #[.int .i64 1, .bool true, .int .i64 0, .string ⟨#[]⟩, .string ⟨#[]⟩, .string ⟨#[]⟩, .slice none 0 0], .int .i64 0]), .eq (.agg #[.int .i64 1, .bool true, .int .i64 0, .string ⟨#[]⟩, .string ⟨#[]⟩, .string ⟨#[]⟩, .slice none 0 0]), .eq (.int .i64 0), .any, .any, .eq (.int .i64 0)]) (GM 15 16 9 w6 #[.int .i64 0, .bool false, .int .i64 0, .string ⟨#[]⟩, .string ⟨#[]⟩, .string ⟨#[]⟩, .slice none 0 0] 37 (fun V w' => w'.heap[V]? = some (.cells #[.int .i64 1, .bool true, .int .i64 0, .string ⟨#[]⟩, .string ⟨#[]⟩, .string ⟨#[]⟩, .slice none 0 0] 37 (0, 0)))) (by kernel_rfl) (by kernel_rfl) (by kernel_rfl) (GM.start _ w6) ?_ ?_ ?_
      · intro q o d ho hd L a' w' hL hw hRR hdep hslot hsz K hK
        have hqN : q < 18 := dstOf_lt hd
        have hR := hRR.below
        have rq0' := (hR.cell (p := ⟨Rb, 0, none⟩) hRb).trans rq0
        have rq1' := (hR.cell (p := ⟨Rb, 1, none⟩) hRb).trans rq1
        have rq2' := (hR.cell (p := ⟨Rb, 2, none⟩) hRb).trans rq2
        have rq3' := (hR.cell (p := ⟨Rb, 3, none⟩) hRb).trans rq3
        have rq4' := (hR.cell (p := ⟨Rb, 4, none⟩) hRb).trans rq4
        have rq5' := (hR.cell (p := ⟨Rb, 5, none⟩) hRb).trans rq5
        have uq0' := (hR.cell (p := ⟨Ub, 0, none⟩) hUb).trans uq0
        have uq1' := (hR.cell (p := ⟨Ub, 1, none⟩) hUb).trans uq1
        have hs5 : a'.tmps.getD 5 undef = .pointer (some ⟨Rb, 0, none⟩) := hslot 5 (fun q h => by have hl := dstOf_lt h; match q, hl with | 0, _ => cases h | 1, _ => cases h | 2, _ => cases h | 3, _ => cases h | 4, _ => cases h | 5, _ => cases h | 6, _ => cases h | 7, _ => cases h | 8, _ => cases h | 9, _ => cases h | 10, _ => cases h | 11, _ => cases h | 12, _ => cases h | 13, _ => cases h | 14, _ => cases h | 15, _ => cases h | 16, _ => cases h | 17, _ => cases h)
        have hs1 : a'.tmps.getD 1 undef = .int .i64 n := hslot 1 (fun q h => by have hl := dstOf_lt h; match q, hl with | 0, _ => cases h | 1, _ => cases h | 2, _ => cases h | 3, _ => cases h | 4, _ => cases h | 5, _ => cases h | 6, _ => cases h | 7, _ => cases h | 8, _ => cases h | 9, _ => cases h | 10, _ => cases h | 11, _ => cases h | 12, _ => cases h | 13, _ => cases h | 14, _ => cases h | 15, _ => cases h | 16, _ => cases h | 17, _ => cases h)
        have hs6 : a'.tmps.getD 6 undef = .pointer (some ⟨Ub, 0, none⟩) := hslot 6 (fun q h => by have hl := dstOf_lt h; match q, hl with | 0, _ => cases h | 1, _ => cases h | 2, _ => cases h | 3, _ => cases h | 4, _ => cases h | 5, _ => cases h | 6, _ => cases h | 7, _ => cases h | 8, _ => cases h | 9, _ => cases h | 10, _ => cases h | 11, _ => cases h | 12, _ => cases h | 13, _ => cases h | 14, _ => cases h | 15, _ => cases h | 16, _ => cases h | 17, _ => cases h)
        have hc : q = 0 ∨ q = 1 ∨ q = 2 ∨ q = 3 ∨ q = 4 ∨ q = 5 ∨ q = 6 ∨ q = 7 ∨ q = 8 ∨ q = 9 ∨ q = 10 ∨ q = 11 ∨ q = 12 ∨ q = 13 ∨ q = 14 ∨ q = 15 ∨ q = 16 ∨ q = 17 := by omega
        rcases hc with rfl | rfl | rfl | rfl | rfl | rfl | rfl | rfl | rfl | rfl | rfl | rfl | rfl | rfl | rfl | rfl | rfl | rfl
        · cases ho
          cases hd
          have e0 := hs5
          clear uq0' uq1'
          unfold Oper.wp
          go_simp
          exact hK _ _ rfl (GM.step (unhide HK15_16) hRR (Below.refl _ _) 0 39 _ (by decide) (by decide) (by decide)) (fun _ _ h => h)
        · cases ho
          cases hd
          have e0 := hs6
          clear rq0' rq1' rq2' rq3' rq4' rq5'
          unfold Oper.wp
          go_simp
          exact hK _ _ rfl (GM.step (unhide HK15_16) hRR (Below.refl _ _) 1 40 _ (by decide) (by decide) (by decide)) (fun _ _ h => h)
        · cases ho
          cases hd
          have e0 : a'.tmps.getD 40 undef = .agg #[.string u.t, .string u.i] := hdep 1 40 rfl (by kernel_rfl)
          have e0' : a'.tmps[40]?.getD undef = .agg #[.string u.t, .string u.i] := by simpa using e0
          clear rq0' rq1' rq2' rq3' rq4' rq5' uq0' uq1'
          have hb0 : 40 < a'.tmps.size := by rw [hsz]; first | decide | simp
          have e0'' : a'.tmps[40] = .agg #[.string u.t, .string u.i] := by simpa [hb0] using e0
          unfold Oper.wp
          go_simp
          exact hK _ _ rfl (GM.step (unhide HK15_16) hRR (Below.refl _ _) 2 41 _ (by decide) (by decide) (by decide)) (fun _ _ h => h)
        · cases ho
          cases hd
          clear rq0' rq1' rq2' rq3' rq4' rq5' uq0' uq1'
          unfold Oper.wp
          go_simp
          exact hK _ _ ⟨w'.heap.size, Nat.zero_le _, rfl, alloc_heap _ _⟩ (GM.step (unhide HK15_16) hRR (ev1 _ _) 3 42 _ (by decide) (by decide) (by decide)) (SpS.up (ev1 _ _))
        · cases ho
          cases hd
          have e0 := hs1
          clear rq0' rq1' rq2' rq3' rq4' rq5' uq0' uq1'
          unfold Oper.wp
          go_simp
          exact hK _ _ rfl (GM.step (unhide HK15_16) hRR (Below.refl _ _) 4 43 _ (by decide) (by decide) (by decide)) (fun _ _ h => h)
        · cases ho
          cases hd
          have e0 : a'.tmps.getD 43 undef = .int .i64 n := hdep 4 43 rfl (by kernel_rfl)
          have e0' : a'.tmps[43]?.getD undef = .int .i64 n := by simpa using e0
          clear rq0' rq1' rq2' rq3' rq4' rq5' uq0' uq1'
          unfold Oper.wp
          go_simp
          refine (CW w').mono ?_
          rintro e w9 ⟨rfl, hw9⟩
          subst hw9
          exact hK _ _ rfl (GM.step (unhide HK15_16) hRR (Below.refl _ _) 5 44 _ (by decide) (by decide) (by decide)) (fun _ _ h => h)
        · cases ho
          cases hd
          obtain ⟨b0, hB0, e0, ho0⟩ : (.blk (0) (fun b => .slice (some ⟨b, 0, none⟩) 3 3) (.cells #[.string ⟨#[112, 114, 105, 110, 99, 105, 112, 97, 108]⟩, .string ⟨#[97, 99, 116, 105, 111, 110]⟩, .string ⟨#[114, 101, 115, 111, 117, 114, 99, 101]⟩] 9 (0, 0)) : Sv).sp (a'.tmps.getD 42 undef) w' := hdep 3 42 rfl (by kernel_rfl)
          have e0' : a'.tmps[42]?.getD undef = .slice (some ⟨b0, 0, none⟩) 3 3 := by simpa using e0
          have Ho0 := hide ho0
          have e1 : a'.tmps.getD 44 undef = .int .i64 (k : Nat) := hdep 5 44 rfl (by kernel_rfl)
          have e1' : a'.tmps[44]?.getD undef = .int .i64 (k : Nat) := by simpa using e1
          clear ho0 rq0' rq1' rq2' rq3' rq4' rq5' uq0' uq1'
          unfold Oper.wp
          go_simp
          exact hK _ _ ⟨b0, hB0, rfl, unhide Ho0⟩ (GM.step (unhide HK15_16) hRR (Below.refl _ _) 6 45 _ (by decide) (by decide) (by decide)) (fun _ _ h => h)
        · cases ho
          cases hd
          obtain ⟨b0, hB0, e0, ho0⟩ : (.blk (0) (fun b => .pointer (some ⟨b, k, none⟩)) (.cells #[.string ⟨#[112, 114, 105, 110, 99, 105, 112, 97, 108]⟩, .string ⟨#[97, 99, 116, 105, 111, 110]⟩, .string ⟨#[114, 101, 115, 111, 117, 114, 99, 101]⟩] 9 (0, 0)) : Sv).sp (a'.tmps.getD 45 undef) w' := hdep 6 45 rfl (by kernel_rfl)
          have e0' : a'.tmps[45]?.getD undef = .pointer (some ⟨b0, k, none⟩) := by simpa using e0
          have Ho0 := hide ho0
          have y0 := unhide HNC _ _ ho0
          clear ho0 rq0' rq1' rq2' rq3' rq4' rq5' uq0' uq1'
          unfold Oper.wp
          go_simp
          exact hK _ _ rfl (GM.step (unhide HK15_16) hRR (Below.refl _ _) 7 46 _ (by decide) (by decide) (by decide)) (fun _ _ h => h)
        · cases ho
          cases hd
          have e0 : a'.tmps.getD 46 undef = .string nm := hdep 7 46 rfl (by kernel_rfl)
          have e0' : a'.tmps[46]?.getD undef = .string nm := by simpa using e0
          clear rq0' rq1' rq2' rq3' rq4' rq5' uq0' uq1'
          have hb0 : 46 < a'.tmps.size := by rw [hsz]; first | decide | simp
          have e0'' : a'.tmps[46] = .string nm := by simpa [hb0] using e0
          unfold Oper.wp
          go_simp
          exact hK _ _ rfl (GM.step (unhide HK15_16) hRR (Below.refl _ _) 8 47 _ (by decide) (by decide) (by decide)) (fun _ _ h => h)
        · cases ho
          cases hd
          have e0 : a'.tmps.getD 41 undef = .agg #[.int .i64 4, .bool false, .int .i64 0, .string ⟨#[]⟩, .string u.t, .string u.i, .slice none 0 0] := hdep 2 41 rfl (by kernel_rfl)
          have e0' : a'.tmps[41]?.getD undef = .agg #[.int .i64 4, .bool false, .int .i64 0, .string ⟨#[]⟩, .string u.t, .string u.i, .slice none 0 0] := by simpa using e0
          have e1 : a'.tmps.getD 47 undef = .agg #[.int .i64 5, .bool false, .int .i64 0, .string nm, .string ⟨#[]⟩, .string ⟨#[]⟩, .slice none 0 0] := hdep 8 47 rfl (by kernel_rfl)
          have e1' : a'.tmps[47]?.getD undef = .agg #[.int .i64 5, .bool false, .int .i64 0, .string nm, .string ⟨#[]⟩, .string ⟨#[]⟩, .slice none 0 0] := by simpa using e1
          clear rq0' rq1' rq2' rq3' rq4' rq5' uq0' uq1'
          have hb0 : 41 < a'.tmps.size := by rw [hsz]; first | decide | simp
          have e0'' : a'.tmps[41] = .agg #[.int .i64 4, .bool false, .int .i64 0, .string ⟨#[]⟩, .string u.t, .string u.i, .slice none 0 0] := by simpa [hb0] using e0
          have hb1 : 47 < a'.tmps.size := by rw [hsz]; first | decide | simp
          have e1'' : a'.tmps[47] = .agg #[.int .i64 5, .bool false, .int .i64 0, .string nm, .string ⟨#[]⟩, .string ⟨#[]⟩, .slice none 0 0] := by simpa [hb1] using e1
          unfold Oper.wp
          go_simp
          exact hK _ _ ⟨w'.heap.size, Nat.zero_le _, rfl, alloc_heap _ _⟩ (GM.step (unhide HK15_16) hRR (ev1 _ _) 9 48 _ (by decide) (by decide) (by decide)) (SpS.up (ev1 _ _))
        · cases ho
          cases hd
          obtain ⟨b0, hB0, e0, ho0⟩ : (.blk (0) (fun b => .slice (some ⟨b, 0, none⟩) 2 2) (.cells #[.int .i64 4, .bool false, .int .i64 0, .string ⟨#[]⟩, .string u.t, .string u.i, .slice none 0 0, .int .i64 5, .bool false, .int .i64 0, .string nm, .string ⟨#[]⟩, .string ⟨#[]⟩, .slice none 0 0] 44 (0, 0)) : Sv).sp (a'.tmps.getD 48 undef) w' := hdep 9 48 rfl (by kernel_rfl)
          have e0' : a'.tmps[48]?.getD undef = .slice (some ⟨b0, 0, none⟩) 2 2 := by simpa using e0
          have Ho0 := hide ho0
          clear ho0 rq0' rq1' rq2' rq3' rq4' rq5' uq0' uq1'
          have hb0 : 48 < a'.tmps.size := by rw [hsz]; first | decide | simp
          have e0'' : a'.tmps[48] = .slice (some ⟨b0, 0, none⟩) 2 2 := by simpa [hb0] using e0
          unfold Oper.wp
          go_simp
          exact hK _ _ ⟨b0, hB0, rfl, unhide Ho0⟩ (GM.step (unhide HK15_16) hRR (Below.refl _ _) 10 49 _ (by decide) (by decide) (by decide)) (fun _ _ h => h)
        · cases ho
          cases hd
          have e0 : a'.tmps.getD 39 undef = .agg #[.string p.t, .string p.i, .string a.t, .string a.i, .string r.t, .string r.i] := hdep 0 39 rfl (by kernel_rfl)
          have e0' : a'.tmps[39]?.getD undef = .agg #[.string p.t, .string p.i, .string a.t, .string a.i, .string r.t, .string r.i] := by simpa using e0
          obtain ⟨b1, hB1, e1, ho1⟩ : (.blk (0) (fun b => .agg #[.int .i64 22, .bool false, .int .i64 0, .string ⟨#[]⟩, .string ⟨#[]⟩, .string ⟨#[]⟩, .slice (some ⟨b, 0, none⟩) 2 2]) (.cells #[.int .i64 4, .bool false, .int .i64 0, .string ⟨#[]⟩, .string u.t, .string u.i, .slice none 0 0, .int .i64 5, .bool false, .int .i64 0, .string nm, .string ⟨#[]⟩, .string ⟨#[]⟩, .slice none 0 0] 44 (0, 0)) : Sv).sp (a'.tmps.getD 49 undef) w' := hdep 10 49 rfl (by kernel_rfl)
          have e1' : a'.tmps[49]?.getD undef = .agg #[.int .i64 22, .bool false, .int .i64 0, .string ⟨#[]⟩, .string ⟨#[]⟩, .string ⟨#[]⟩, .slice (some ⟨b1, 0, none⟩) 2 2] := by simpa using e1
          have Ho1 := hide ho1
          clear ho1 rq0' rq1' rq2' rq3' rq4' rq5' uq0' uq1'
          unfold Oper.wp
          go_simp
          refine (unhide CO2 w' b1 ((unhide HF).below ((unhide HB).trans (hR.mono (unhide HB).size))) (unhide Ho1)).mono ?_
          rintro e w9 ⟨rfl, b9⟩
          exact hK _ _ rfl (GM.step (unhide HK15_16) hRR b9 11 50 _ (by decide) (by decide) (by decide)) (SpS.up b9)
        · cases ho
          cases hd
          have e0 : a'.tmps.getD 50 undef = .tuple #[.agg #[.int .i64 1, .bool true, .int .i64 0, .string ⟨#[]⟩, .string ⟨#[]⟩, .string ⟨#[]⟩, .slice none 0 0], .int .i64 0] := hdep 11 50 rfl (by kernel_rfl)
          have e0' : a'.tmps[50]?.getD undef = .tuple #[.agg #[.int .i64 1, .bool true, .int .i64 0, .string ⟨#[]⟩, .string ⟨#[]⟩, .string ⟨#[]⟩, .slice none 0 0], .int .i64 0] := by simpa using e0
          clear rq0' rq1' rq2' rq3' rq4' rq5' uq0' uq1'
          unfold Oper.wp
          go_simp
          exact hK _ _ rfl (GM.step (unhide HK15_16) hRR (Below.refl _ _) 12 38 _ (by decide) (by decide) (by decide)) (fun _ _ h => h)
        · cases ho
          cases hd
          have e0 : a'.tmps.getD 38 undef = .tuple #[.agg #[.int .i64 1, .bool true, .int .i64 0, .string ⟨#[]⟩, .string ⟨#[]⟩, .string ⟨#[]⟩, .slice none 0 0], .int .i64 0] := hdep 12 38 rfl (by kernel_rfl)
          have e0' : a'.tmps[38]?.getD undef = .tuple #[.agg #[.int .i64 1, .bool true, .int .i64 0, .string ⟨#[]⟩, .string ⟨#[]⟩, .string ⟨#[]⟩, .slice none 0 0], .int .i64 0] := by simpa using e0
          clear rq0' rq1' rq2' rq3' rq4' rq5' uq0' uq1'
          unfold Oper.wp
          go_simp
          exact hK _ _ rfl (GM.step (unhide HK15_16) hRR (Below.refl _ _) 13 51 _ (by decide) (by decide) (by decide)) (fun _ _ h => h)
        · cases ho
          cases hd
          have e0 : a'.tmps.getD 38 undef = .tuple #[.agg #[.int .i64 1, .bool true, .int .i64 0, .string ⟨#[]⟩, .string ⟨#[]⟩, .string ⟨#[]⟩, .slice none 0 0], .int .i64 0] := hdep 12 38 rfl (by kernel_rfl)
          have e0' : a'.tmps[38]?.getD undef = .tuple #[.agg #[.int .i64 1, .bool true, .int .i64 0, .string ⟨#[]⟩, .string ⟨#[]⟩, .string ⟨#[]⟩, .slice none 0 0], .int .i64 0] := by simpa using e0
          clear rq0' rq1' rq2' rq3' rq4' rq5' uq0' uq1'
          unfold Oper.wp
          go_simp
          exact hK _ _ rfl (GM.step (unhide HK15_16) hRR (Below.refl _ _) 14 52 _ (by decide) (by decide) (by decide)) (fun _ _ h => h)
        · cases ho
          cases hd
          clear rq0' rq1' rq2' rq3' rq4' rq5' uq0' uq1'
          unfold Oper.wp
          go_simp
          exact hK _ _ trivial (hRR.alloc (by decide) hL (by rw [hsz]; first | decide | simp)) (SpS.up (ev1 _ _))
        · cases hd
        · cases ho
          cases hd
          have e0 : a'.tmps.getD 52 undef = .int .i64 0 := hdep 14 52 rfl (by kernel_rfl)
          have e0' : a'.tmps[52]?.getD undef = .int .i64 0 := by simpa using e0
          clear rq0' rq1' rq2' rq3' rq4' rq5' uq0' uq1'
          unfold Oper.wp
          go_simp
          exact hK _ _ rfl (GM.step (unhide HK15_16) hRR (Below.refl _ _) 17 10 _ (by decide) (by decide) (by decide)) (fun _ _ h => h)
      · intro q o ho hd L a' w' hL hw hRR hdep K hK
        have hqN : q < 18 := (List.getElem?_eq_some_iff.1 ho).1
        have hR := hRR.below
        have rq0' := (hR.cell (p := ⟨Rb, 0, none⟩) hRb).trans rq0
        have rq1' := (hR.cell (p := ⟨Rb, 1, none⟩) hRb).trans rq1
        have rq2' := (hR.cell (p := ⟨Rb, 2, none⟩) hRb).trans rq2
        have rq3' := (hR.cell (p := ⟨Rb, 3, none⟩) hRb).trans rq3
        have rq4' := (hR.cell (p := ⟨Rb, 4, none⟩) hRb).trans rq4
        have rq5' := (hR.cell (p := ⟨Rb, 5, none⟩) hRb).trans rq5
        have uq0' := (hR.cell (p := ⟨Ub, 0, none⟩) hUb).trans uq0
        have uq1' := (hR.cell (p := ⟨Ub, 1, none⟩) hUb).trans uq1
        have hc : q = 0 ∨ q = 1 ∨ q = 2 ∨ q = 3 ∨ q = 4 ∨ q = 5 ∨ q = 6 ∨ q = 7 ∨ q = 8 ∨ q = 9 ∨ q = 10 ∨ q = 11 ∨ q = 12 ∨ q = 13 ∨ q = 14 ∨ q = 15 ∨ q = 16 ∨ q = 17 := by omega
        rcases hc with rfl | rfl | rfl | rfl | rfl | rfl | rfl | rfl | rfl | rfl | rfl | rfl | rfl | rfl | rfl | rfl | rfl | rfl
        · cases hd
        · cases hd
        · cases hd
        · cases hd
        · cases hd
        · cases hd
        · cases hd
        · cases hd
        · cases hd
        · cases hd
        · cases hd
        · cases hd
        · cases hd
        · cases hd
        · cases hd
        · cases hd
        · cases ho
          have e0 : a'.tmps.getD 51 undef = .agg #[.int .i64 1, .bool true, .int .i64 0, .string ⟨#[]⟩, .string ⟨#[]⟩, .string ⟨#[]⟩, .slice none 0 0] := hdep 13 51 rfl (by kernel_rfl)
          have e0' : a'.tmps[51]?.getD undef = .agg #[.int .i64 1, .bool true, .int .i64 0, .string ⟨#[]⟩, .string ⟨#[]⟩, .string ⟨#[]⟩, .slice none 0 0] := by simpa using e0
          clear rq0' rq1' rq2' rq3' rq4' rq5' uq0' uq1'
          obtain ⟨V, eV, hVle, hVz, hS⟩ := hRR.store (hw 15 (by kernel_rfl)) hL
          have d0 : w'.cell? ⟨V, 0, none⟩ = some (.int .i64 0) := by rw [Lib.cell_of_heap hVz]; rfl
          have d1 : w'.cell? ⟨V, 1, none⟩ = some (.bool false) := by rw [Lib.cell_of_heap hVz]; rfl
          have d2 : w'.cell? ⟨V, 2, none⟩ = some (.int .i64 0) := by rw [Lib.cell_of_heap hVz]; rfl
          have d3 : w'.cell? ⟨V, 3, none⟩ = some (.string ⟨#[]⟩) := by rw [Lib.cell_of_heap hVz]; rfl
          have d4 : w'.cell? ⟨V, 4, none⟩ = some (.string ⟨#[]⟩) := by rw [Lib.cell_of_heap hVz]; rfl
          have d5 : w'.cell? ⟨V, 5, none⟩ = some (.string ⟨#[]⟩) := by rw [Lib.cell_of_heap hVz]; rfl
          have d6 : w'.cell? ⟨V, 6, none⟩ = some (.slice none 0 0) := by rw [Lib.cell_of_heap hVz]; rfl
          have df : ∀ o, w'.frozen? ⟨V, o, none⟩ = false := fun o => Lib.frozen_of_heap hVz o
          have HP := hide (And.intro (hS _ (set7S_below hRR.below hVle (.int .i64 1) (.bool true) (.int .i64 0) (.string ⟨#[]⟩) (.string ⟨#[]⟩) (.string ⟨#[]⟩) (.slice none 0 0)) (set7S_at hVz (.int .i64 1) (.bool true) (.int .i64 0) (.string ⟨#[]⟩) (.string ⟨#[]⟩) (.string ⟨#[]⟩) (.slice none 0 0))) (SpS.kept 7 37 hVz rfl (fun k hk => set7S_heap w' V k (.int .i64 1) (.bool true) (.int .i64 0) (.string ⟨#[]⟩) (.string ⟨#[]⟩) (.string ⟨#[]⟩) (.slice none 0 0) hk) (l := [.eq (.agg #[.string p.t, .string p.i, .string a.t, .string a.i, .string r.t, .string r.i]), .eq (.agg #[.string u.t, .string u.i]), .eq (.agg #[.int .i64 4, .bool false, .int .i64 0, .string ⟨#[]⟩, .string u.t, .string u.i, .slice none 0 0]), .blk (0) (fun b => .slice (some ⟨b, 0, none⟩) 3 3) (.cells #[.string ⟨#[112, 114, 105, 110, 99, 105, 112, 97, 108]⟩, .string ⟨#[97, 99, 116, 105, 111, 110]⟩, .string ⟨#[114, 101, 115, 111, 117, 114, 99, 101]⟩] 9 (0, 0)), .eq (.int .i64 n), .eq (.int .i64 (k : Nat)), .blk (0) (fun b => .pointer (some ⟨b, k, none⟩)) (.cells #[.string ⟨#[112, 114, 105, 110, 99, 105, 112, 97, 108]⟩, .string ⟨#[97, 99, 116, 105, 111, 110]⟩, .string ⟨#[114, 101, 115, 111, 117, 114, 99, 101]⟩] 9 (0, 0)), .eq (.string nm), .eq (.agg #[.int .i64 5, .bool false, .int .i64 0, .string nm, .string ⟨#[]⟩, .string ⟨#[]⟩, .slice none 0 0]), .blk (0) (fun b => .slice (some ⟨b, 0, none⟩) 2 2) (.cells #[.int .i64 4, .bool false, .int .i64 0, .string ⟨#[]⟩, .string u.t, .string u.i, .slice none 0 0, .int .i64 5, .bool false, .int .i64 0, .string nm, .string ⟨#[]⟩, .string ⟨#[]⟩, .slice none 0 0] 44 (0, 0)), .blk (0) (fun b => .agg #[.int .i64 22, .bool false, .int .i64 0, .string ⟨#[]⟩, .string ⟨#[]⟩, .string ⟨#[]⟩, .slice (some ⟨b, 0, none⟩) 2 2]) (.cells #[.int .i64 4, .bool false, .int .i64 0, .string ⟨#[]⟩, .string u.t, .string u.i, .slice none 0 0, .int .i64 5, .bool false, .int .i64 0, .string nm, .string ⟨#[]⟩, .string ⟨#[]⟩, .slice none 0 0] 44 (0, 0)), .eq (.tuple #[.agg #[.int .i64 1, .bool true, .int .i64 0, .string ⟨#[]⟩, .string ⟨#[]⟩, .string ⟨#[]⟩, .slice none 0 0], .int .i64 0]), .eq (.tuple #[.agg #[.int .i64 1, .bool true, .int .i64 0, .string ⟨#[]⟩, .string ⟨#[]⟩, .string ⟨#[]⟩, .slice none 0 0], .int .i64 0]), .eq (.agg #[.int .i64 1, .bool true, .int .i64 0, .string ⟨#[]⟩, .string ⟨#[]⟩, .string ⟨#[]⟩, .slice none 0 0]), .eq (.int .i64 0), .any, .any, .eq (.int .i64 0)]) rfl))
          have e1 := eV
          clear hVz hS
          unfold Oper.wp
          go_simp
          exact hK _ (unhide HP).1 (unhide HP).2 undef
        · cases hd
      · intro v L w' hLa hRR hv
        have bE := hRR.below
        obtain ⟨V, eV, hVle, hVF⟩ := hRR.full (hLa 16 (by decide))
        have f0 : v 0 = .agg #[.string p.t, .string p.i, .string a.t, .string a.i, .string r.t, .string r.i] := (hv 0 39 rfl).1
        have f1 : v 1 = .agg #[.string u.t, .string u.i] := (hv 1 40 rfl).1
        have f2 : v 2 = .agg #[.int .i64 4, .bool false, .int .i64 0, .string ⟨#[]⟩, .string u.t, .string u.i, .slice none 0 0] := (hv 2 41 rfl).1
        have f4 : v 4 = .int .i64 n := (hv 4 43 rfl).1
        have f5 : v 5 = .int .i64 (k : Nat) := (hv 5 44 rfl).1
        have f7 : v 7 = .string nm := (hv 7 46 rfl).1
        have f8 : v 8 = .agg #[.int .i64 5, .bool false, .int .i64 0, .string nm, .string ⟨#[]⟩, .string ⟨#[]⟩, .slice none 0 0] := (hv 8 47 rfl).1
        have f11 : v 11 = .tuple #[.agg #[.int .i64 1, .bool true, .int .i64 0, .string ⟨#[]⟩, .string ⟨#[]⟩, .string ⟨#[]⟩, .slice none 0 0], .int .i64 0] := (hv 11 50 rfl).1
        have f12 : v 12 = .tuple #[.agg #[.int .i64 1, .bool true, .int .i64 0, .string ⟨#[]⟩, .string ⟨#[]⟩, .string ⟨#[]⟩, .slice none 0 0], .int .i64 0] := (hv 12 38 rfl).1
        have f13 : v 13 = .agg #[.int .i64 1, .bool true, .int .i64 0, .string ⟨#[]⟩, .string ⟨#[]⟩, .string ⟨#[]⟩, .slice none 0 0] := (hv 13 51 rfl).1
        have f14 : v 14 = .int .i64 0 := (hv 14 52 rfl).1
        have f17 : v 17 = .int .i64 0 := (hv 17 10 rfl).1
        obtain ⟨b3, hB3, f3, ho3⟩ : (.blk (0) (fun b => .slice (some ⟨b, 0, none⟩) 3 3) (.cells #[.string ⟨#[112, 114, 105, 110, 99, 105, 112, 97, 108]⟩, .string ⟨#[97, 99, 116, 105, 111, 110]⟩, .string ⟨#[114, 101, 115, 111, 117, 114, 99, 101]⟩] 9 (0, 0)) : Sv).sp (v 3) w' := (hv 3 42 rfl).1
        obtain ⟨b6, hB6, f6, ho6⟩ : (.blk (0) (fun b => .pointer (some ⟨b, k, none⟩)) (.cells #[.string ⟨#[112, 114, 105, 110, 99, 105, 112, 97, 108]⟩, .string ⟨#[97, 99, 116, 105, 111, 110]⟩, .string ⟨#[114, 101, 115, 111, 117, 114, 99, 101]⟩] 9 (0, 0)) : Sv).sp (v 6) w' := (hv 6 45 rfl).1
        obtain ⟨b9, hB9, f9, ho9⟩ : (.blk (0) (fun b => .slice (some ⟨b, 0, none⟩) 2 2) (.cells #[.int .i64 4, .bool false, .int .i64 0, .string ⟨#[]⟩, .string u.t, .string u.i, .slice none 0 0, .int .i64 5, .bool false, .int .i64 0, .string nm, .string ⟨#[]⟩, .string ⟨#[]⟩, .slice none 0 0] 44 (0, 0)) : Sv).sp (v 9) w' := (hv 9 48 rfl).1
        obtain ⟨b10, hB10, f10, ho10⟩ : (.blk (0) (fun b => .agg #[.int .i64 22, .bool false, .int .i64 0, .string ⟨#[]⟩, .string ⟨#[]⟩, .string ⟨#[]⟩, .slice (some ⟨b, 0, none⟩) 2 2]) (.cells #[.int .i64 4, .bool false, .int .i64 0, .string ⟨#[]⟩, .string u.t, .string u.i, .slice none 0 0, .int .i64 5, .bool false, .int .i64 0, .string nm, .string ⟨#[]⟩, .string ⟨#[]⟩, .slice none 0 0] 44 (0, 0)) : Sv).sp (v 10) w' := (hv 10 49 rfl).1
        have f15 : v 15 = .pointer (some ⟨V, 0, none⟩) := ((hv 15 9 rfl).2).symm.trans eV
        clear eV
        clear hRR hv hLa
        simp only [putAll, dstOf, List.getElem?_cons_zero, List.getElem?_cons_succ, Option.bind_some, List.length_cons, List.length_nil, f0, f1, f2, f3, f4, f5, f6, f7, f8, f9, f10, f11, f12, f13, f14, f15, f17]
        clear f0 f1 f2 f3 f4 f5 f6 f7 f8 f9 f10 f11 f12 f13 f14 f15 f17
        simp only [Act.put, List.setIfInBounds_toArray, List.set_cons_succ, List.set_cons_zero]
        generalize v 16 = vv16
        obtain ⟨wG, hwG⟩ : ∃ q, q = w' := ⟨_, rfl⟩
        subst hwG
        obtain ⟨Wb, hWb⟩ : ∃ q, q = V := ⟨_, rfl⟩
        subst hWb
        have hWW : wG.heap[Wb]? = some (.cells #[.int .i64 1, .bool true, .int .i64 0, .string ⟨#[]⟩, .string ⟨#[]⟩, .string ⟨#[]⟩, .slice none 0 0] 37 (0, 0)) := hVF
        have hVV := kept_of_below bE (unhide HV)
        have hUU := kept_of_below bE (unhide HU)
        have HZ := hide ((unhide HB).trans (bE.mono (unhide HB).size))
        have cv0 : wG.cell? ⟨Vb, 0, none⟩ = some (.int .i64 4) := by rw [Lib.cell_of_heap hVV]; rfl
        have cv1 : wG.cell? ⟨Vb, 1, none⟩ = some (.bool false) := by rw [Lib.cell_of_heap hVV]; rfl
        have cv2 : wG.cell? ⟨Vb, 2, none⟩ = some (.int .i64 0) := by rw [Lib.cell_of_heap hVV]; rfl
        have cv3 : wG.cell? ⟨Vb, 3, none⟩ = some (.string ⟨#[]⟩) := by rw [Lib.cell_of_heap hVV]; rfl
        have cv4 : wG.cell? ⟨Vb, 4, none⟩ = some (.string u.t) := by rw [Lib.cell_of_heap hVV]; rfl
        have cv5 : wG.cell? ⟨Vb, 5, none⟩ = some (.string u.i) := by rw [Lib.cell_of_heap hVV]; rfl
        have cv6 : wG.cell? ⟨Vb, 6, none⟩ = some (.slice none 0 0) := by rw [Lib.cell_of_heap hVV]; rfl
        have cw0 : wG.cell? ⟨Wb, 0, none⟩ = some (.int .i64 1) := by rw [Lib.cell_of_heap hWW]; rfl
        have cw1 : wG.cell? ⟨Wb, 1, none⟩ = some (.bool true) := by rw [Lib.cell_of_heap hWW]; rfl
        have cw2 : wG.cell? ⟨Wb, 2, none⟩ = some (.int .i64 0) := by rw [Lib.cell_of_heap hWW]; rfl
        have cw3 : wG.cell? ⟨Wb, 3, none⟩ = some (.string ⟨#[]⟩) := by rw [Lib.cell_of_heap hWW]; rfl
        have cw4 : wG.cell? ⟨Wb, 4, none⟩ = some (.string ⟨#[]⟩) := by rw [Lib.cell_of_heap hWW]; rfl
        have cw5 : wG.cell? ⟨Wb, 5, none⟩ = some (.string ⟨#[]⟩) := by rw [Lib.cell_of_heap hWW]; rfl
        have cw6 : wG.cell? ⟨Wb, 6, none⟩ = some (.slice none 0 0) := by rw [Lib.cell_of_heap hWW]; rfl
        have cu0 : wG.cell? ⟨Ub, 0, none⟩ = some (.string u.t) := by rw [Lib.cell_of_heap hUU]; rfl
        have cu1 : wG.cell? ⟨Ub, 1, none⟩ = some (.string u.i) := by rw [Lib.cell_of_heap hUU]; rfl
        clear hVF hWW hVV hUU bE hVle ho3 ho6 ho9 ho10 CW
        have BQ : ∀ W, (binOp .eql 25 (.agg #[.string u.t, .string u.i]) (.agg #[.string u.t, .string u.i])).run Tryz.prog W = .ok (.bool true) W := fun W => by
          rw [binEqlUid, decide_eq_true rfl]
        go_wp2
        go_ret
        exact ⟨rfl, (unhide HB0).trans ((unhide HZ).mono (unhide HB0).size)⟩
end Go.Proofs.YtakolbijajlhkaaGreat
