/-
  chancellaw11.TypesOf: the walk.
-/
import Derived.Test.YtagnbpobcijakaaTyWX
import Derived.Test.YtagnbpobcijakaaTyPQ
import Derived.Test.YtagnbpobcijakaaTyRK
namespace Go.Proofs.Ytagnbpobcijakaa
open Go.RowKit Go.Sort

set_option maxHeartbeats 16000000 in
set_option maxRecDepth 1000000 in
theorem typesOf_walk (ks : List LK) (as_ : List LA) (ko ao : Option Addr) (kc ac : Nat) (r : R4) (x : Rw) (n : Int) (p_ q_ : ByteArray) (w : World) (hk : IsLKs w ko ks) (ha : IsLAs w ao as_) (hkp : ∀ j (h : j < ks.length), ks[j].ps.length ≤ 9223372036854775807 ∧ ks[j].fs.length ≤ 9223372036854775807) (hap : ∀ j (h : j < as_.length), as_[j].p.length ≤ 9223372036854775807 ∧ as_[j].r.length ≤ 9223372036854775807) (hx : IsR w r x) :
    Calls Try.prog 3 #[.slice ko ks.length kc, .slice ao as_.length ac, r.val, .int .i64 n, .string p_, .string q_] w fun e w' => e = .returned (.bool true) ∧ Below w.heap.size w w' := by
  have C0 := fun w' => known11_any w'
  have CG := fun w' (hb : Below w.heap.size w w') => good_any ks as_ ko ao kc ac w' (lks_below hk hb) (las_below ha hb) hkp hap
  have F := fun w' (hb : Below w.heap.size w w') => few5_any (depR x) x r w' 150 (Nat.le_refl _) (IsR.below hb r x hx) (by decide) (by decide)
  have T := fun w' (hb : Below w.heap.size w w') => tree5_any 10 x r w' (by decide) (IsR.below hb r x hx)
  have hfew := few_good (tiny_schema ks as_)
  have hna : noneB (goodS (schemaS ks as_)).names ⟨#[65, 99, 116, 105, 111, 110]⟩ = true := good_noAction (schemaS ks as_)
  have htree := tree_okT 10 x
  clear hk ha hkp hap hx
  generalize goodS (schemaS ks as_) = G at *
  generalize treeX 10 x = X at *
  generalize fewR x 150 = f at *
  have hsmG : SmS G := ⟨by have := hfew.ks; omega, by have := hfew.ac; omega, fun k hk => by have := hfew.k k hk; omega, fun k hk => by have := hfew.a k hk; omega⟩
  have HFA : ∀ a ∈ G.ac, a.pr.length ≤ 4 ∧ a.re.length ≤ 4 := fun a ha => by have := hfew.a a ha; omega
  have hac15 := hfew.ac
  have hsumA : (allA G.ac).length ≤ 240 := by rw [allA_len]; exact sumA_small hac15 HFA
  have CE := fun v w' (hs : IsS w' v G) => env11_any G v n w' (by omega) (fun a ha => by have := HFA a ha; omega) (by omega) hs
  have COF := fun (p a r : ByteArray) v q w' (hs : IsST w' v G) (hq : IsE w' (fun _ => True) q X) => of11_any G p a r X 11 v q w' hsmG hna htree.2.2 htree.2.1 htree.1 hs hq
  have HOF := hide COF
  have HCE := hide CE
  clear hsmG HFA hac15 hsumA hfew hna htree COF CE
  unfold R4.val at F T ⊢
  have n1 := blw1 w (.cells #[.int .i64 r.op, .int .i64 r.n, .slice r.so r.sl r.sc, .slice r.lo r.ll r.lc] 27)
  have Z1 := alloc_heap w (.cells #[.int .i64 r.op, .int .i64 r.n, .slice r.so r.sl r.sc, .slice r.lo r.ll r.lc] 27)
  go_enter Try.func3, Try.ntmps3
  go_upto_region 1 with fail
  generalize w.alloc _ = w1 at *
  go_wp2_with fail
  refine (C0 w1).mono ?_
  clear C0
  rintro e9 w2 ⟨rfl, b2⟩
  have b02 := n1.trans (b2.mono n1.size)
  have Z2 := kept_of_below b2 Z1
  have rr0 : w2.cell? ⟨w.heap.size, 0, none⟩ = some (.int .i64 r.op) := by rw [Lib.cell_of_heap Z2]; rfl
  have rr1 : w2.cell? ⟨w.heap.size, 1, none⟩ = some (.int .i64 r.n) := by rw [Lib.cell_of_heap Z2]; rfl
  have rr2 : w2.cell? ⟨w.heap.size, 2, none⟩ = some (.slice r.so r.sl r.sc) := by rw [Lib.cell_of_heap Z2]; rfl
  have rr3 : w2.cell? ⟨w.heap.size, 3, none⟩ = some (.slice r.lo r.ll r.lc) := by rw [Lib.cell_of_heap Z2]; rfl
  have F2 := F w2 b02
  clear F
  go_wp2_with fail
  refine F2.mono ?_
  clear F2
  clear rr0 rr1 rr2 rr3
  rintro e9 w3 ⟨rfl, b3⟩
  have b03 := b02.trans (b3.mono b02.size)
  have Z3 := kept_of_below b3 Z2
  by_cases hf : f = 0
  · subst hf
    go_wp2
    go_ret
    exact ⟨rfl, b03⟩
  have hf' : (f == 0) = false := by simpa using hf
  obtain ⟨sz, hsz⟩ : ∃ sz, sz = IntKind.i64.wrap ((p_.size : Int) + (q_.size : Int)) := ⟨_, rfl⟩
  have hsz2 := hsz.symm
  have Hsz := hide hsz
  clear hsz
  by_cases h100 : (100 : Int) < sz
  · go_wp2
    go_ret
    exact ⟨rfl, b03⟩
  have CG3 := CG w3 b03
  clear CG
  go_upto_region 5 with fail
  clear hsz2 Hsz h100
  go_wp2_with fail
  refine CG3.mono ?_
  clear CG3
  rintro e9 w4 ⟨b4, v, rfl, hST⟩
  obtain ⟨sko, skc, sao, sac, rfl, _, _⟩ := hST.ex2
  have b5 := blw1 w4 (.cells #[.slice sko G.ks.length skc, .slice sao G.ac.length sac] 33)
  have HB := alloc_heap w4 (.cells #[.slice sko G.ks.length skc, .slice sao G.ac.length sac] 33)
  have B5 := b4.trans (b5.mono b4.size)
  have b05 := b03.trans (B5.mono b03.size)
  have Z5 := kept_of_below B5 Z3
  have hST5 := hST.below b5
  clear hST
  go_upto_region 6 with fail
  generalize w4.alloc _ = w5 at *
  have rr0 : w5.cell? ⟨w.heap.size, 0, none⟩ = some (.int .i64 r.op) := by rw [Lib.cell_of_heap Z5]; rfl
  have rr1 : w5.cell? ⟨w.heap.size, 1, none⟩ = some (.int .i64 r.n) := by rw [Lib.cell_of_heap Z5]; rfl
  have rr2 : w5.cell? ⟨w.heap.size, 2, none⟩ = some (.slice r.so r.sl r.sc) := by rw [Lib.cell_of_heap Z5]; rfl
  have rr3 : w5.cell? ⟨w.heap.size, 3, none⟩ = some (.slice r.lo r.ll r.lc) := by rw [Lib.cell_of_heap Z5]; rfl
  have T5 := T w5 b05
  clear T
  go_wp2_with fail
  refine T5.mono ?_
  clear T5
  clear rr0 rr1 rr2 rr3
  rintro e9 w6 ⟨q, rfl, b6, hq⟩
  unfold R7.val
  have b7 := blw1 w6 (.cells #[.int .i64 q.k, .bool q.b, .int .i64 q.n, .string q.s, .string q.t, .string q.i, .slice q.lo q.ll q.lc] 39)
  have HX := alloc_heap w6 (.cells #[.int .i64 q.k, .bool q.b, .int .i64 q.n, .string q.s, .string q.t, .string q.i, .slice q.lo q.ll q.lc] 39)
  have hq6 : IsE w6 (fun _ => True) q X := IsE.turn (Nat.le_refl _) (fun b _ _ => ⟨rfl, trivial⟩) q X hq
  have B7 := b6.trans (b7.mono b6.size)
  have b07 := b05.trans (B7.mono b05.size)
  have HB := kept_of_below B7 HB
  have hST7 := hST5.below B7
  have hq7 := hq6.lift b7
  clear hq hq6 hST5
  go_upto_region 7 with fail
  generalize w6.alloc _ = w7 at *
  have gs0 : w7.cell? ⟨w4.heap.size, 0, none⟩ = some (.slice sko G.ks.length skc) := by rw [Lib.cell_of_heap HB]; rfl
  have gs1 : w7.cell? ⟨w4.heap.size, 1, none⟩ = some (.slice sao G.ac.length sac) := by rw [Lib.cell_of_heap HB]; rfl
  have E7 := unhide HCE _ w7 hST7.is
  clear HCE
  go_wp2_with fail
  refine E7.mono ?_
  clear E7 gs0 gs1
  rintro e9 w8 ⟨⟨Ev, is, rfl, _⟩, b8⟩
  have b9 := blw1 w8 (.cells #[.string Ev.p, .string Ev.a, .string Ev.r] 42)
  have HE := alloc_heap w8 (.cells #[.string Ev.p, .string Ev.a, .string Ev.r] 42)
  have B9 := b8.trans (b9.mono b8.size)
  have b09 := b07.trans (B9.mono b07.size)
  have HB := kept_of_below B9 HB
  have HX := kept_of_below B9 HX
  have hST9 := hST7.below B9
  have hq9 := hq7.lift B9
  clear hST7 hq7
  go_upto_region 8 with fail
  generalize w8.alloc _ = w9 at *
  have gs0 : w9.cell? ⟨w4.heap.size, 0, none⟩ = some (.slice sko G.ks.length skc) := by rw [Lib.cell_of_heap HB]; rfl
  have gs1 : w9.cell? ⟨w4.heap.size, 1, none⟩ = some (.slice sao G.ac.length sac) := by rw [Lib.cell_of_heap HB]; rfl
  have gx0 : w9.cell? ⟨w6.heap.size, 0, none⟩ = some (.int .i64 q.k) := by rw [Lib.cell_of_heap HX]; rfl
  have gx1 : w9.cell? ⟨w6.heap.size, 1, none⟩ = some (.bool q.b) := by rw [Lib.cell_of_heap HX]; rfl
  have gx2 : w9.cell? ⟨w6.heap.size, 2, none⟩ = some (.int .i64 q.n) := by rw [Lib.cell_of_heap HX]; rfl
  have gx3 : w9.cell? ⟨w6.heap.size, 3, none⟩ = some (.string q.s) := by rw [Lib.cell_of_heap HX]; rfl
  have gx4 : w9.cell? ⟨w6.heap.size, 4, none⟩ = some (.string q.t) := by rw [Lib.cell_of_heap HX]; rfl
  have gx5 : w9.cell? ⟨w6.heap.size, 5, none⟩ = some (.string q.i) := by rw [Lib.cell_of_heap HX]; rfl
  have gx6 : w9.cell? ⟨w6.heap.size, 6, none⟩ = some (.slice q.lo q.ll q.lc) := by rw [Lib.cell_of_heap HX]; rfl
  have O9 := unhide HOF p_ ⟨#[]⟩ q_ _ q w9 hST9 hq9
  go_wp2_with fail
  refine O9.mono ?_
  clear O9 gs0 gs1 gx0 gx1 gx2 gx3 gx4 gx5 gx6
  rintro e9 wa ⟨rfl, ba_⟩
  have b0a := b09.trans (ba_.mono b09.size)
  cases is
  · go_wp2
    go_ret
    exact ⟨rfl, b0a⟩
  · have HB := kept_of_below ba_ HB
    have HX := kept_of_below ba_ HX
    have HE := kept_of_below ba_ HE
    have gs0 : wa.cell? ⟨w4.heap.size, 0, none⟩ = some (.slice sko G.ks.length skc) := by rw [Lib.cell_of_heap HB]; rfl
    have gs1 : wa.cell? ⟨w4.heap.size, 1, none⟩ = some (.slice sao G.ac.length sac) := by rw [Lib.cell_of_heap HB]; rfl
    have gx0 : wa.cell? ⟨w6.heap.size, 0, none⟩ = some (.int .i64 q.k) := by rw [Lib.cell_of_heap HX]; rfl
    have gx1 : wa.cell? ⟨w6.heap.size, 1, none⟩ = some (.bool q.b) := by rw [Lib.cell_of_heap HX]; rfl
    have gx2 : wa.cell? ⟨w6.heap.size, 2, none⟩ = some (.int .i64 q.n) := by rw [Lib.cell_of_heap HX]; rfl
    have gx3 : wa.cell? ⟨w6.heap.size, 3, none⟩ = some (.string q.s) := by rw [Lib.cell_of_heap HX]; rfl
    have gx4 : wa.cell? ⟨w6.heap.size, 4, none⟩ = some (.string q.t) := by rw [Lib.cell_of_heap HX]; rfl
    have gx5 : wa.cell? ⟨w6.heap.size, 5, none⟩ = some (.string q.i) := by rw [Lib.cell_of_heap HX]; rfl
    have gx6 : wa.cell? ⟨w6.heap.size, 6, none⟩ = some (.slice q.lo q.ll q.lc) := by rw [Lib.cell_of_heap HX]; rfl
    have ge0 : wa.cell? ⟨w8.heap.size, 0, none⟩ = some (.string Ev.p) := by rw [Lib.cell_of_heap HE]; rfl
    have ge1 : wa.cell? ⟨w8.heap.size, 1, none⟩ = some (.string Ev.a) := by rw [Lib.cell_of_heap HE]; rfl
    have ge2 : wa.cell? ⟨w8.heap.size, 2, none⟩ = some (.string Ev.r) := by rw [Lib.cell_of_heap HE]; rfl
    have Oa := unhide HOF Ev.p Ev.a Ev.r _ q wa (hST9.below ba_) (hq9.lift ba_)
    go_wp2_with fail
    refine Oa.mono ?_
    clear Oa gs0 gs1 gx0 gx1 gx2 gx3 gx4 gx5 gx6 ge0 ge1 ge2
    rintro e9 wb ⟨rfl, bb_⟩
    have b0b := b0a.trans (bb_.mono b0a.size)
    go_wp2
    go_ret
    exact ⟨rfl, b0b⟩
end Go.Proofs.Ytagnbpobcijakaa
