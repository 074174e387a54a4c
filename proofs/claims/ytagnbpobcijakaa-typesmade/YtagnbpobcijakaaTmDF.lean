/-
 chancellaw11.build: nothing: what it returns.
 chancellaw11.build: a field: what it returns.
 Of a good schema: its fields rise, so that each one is found by its name; an environment's types are kinds (no walk in it).
-/
import Derived.Test.YtagnbpobcijakaaTmCB
namespace Go.Proofs.Ytagnbpobcijakaa
open Go.RowKit Go.Sort

/-- No tree is answered. -/
def ZeroT (w : World) (e : Ending) (w' : World) : Prop := ∃ q : R7, e = .returned (.agg #[.int .i64 q.k, .bool q.b, .int .i64 q.n, .string q.s, .string q.t, .string q.i, .slice q.lo q.ll q.lc]) ∧ Below w.heap.size w w' ∧ q.k = 0
set_option maxHeartbeats 8000000 in
set_option maxRecDepth 1000000 in
theorem build11_za (s : SP) (ko ao : Option Addr) (kc acp : Nat) (p ac r : ByteArray) (dq dp : Int) (n : Nat) (d : R4) (x : Rw) (t : T3) (h0 : 4 ≤ d.op % 12) (g1 : (t.k == 1) = false) (g2 : (t.k == 2) = false) (g5 : (t.k == 5) = false) (w : World) (hdp : IntKind.i64.wrap (dq - 1) = dp) (hx : IsR w d x) (COF : ∀ (w' : World) (t : T3) (d : R4) (x : Rw), Below w.heap.size w w' → GTy s t → IsR w' d x → Calls Try.prog 14 #[.agg #[.slice ko s.ks.length kc, .slice ao s.ac.length acp, .string p, .string ac, .string r, .int .i64 dp], .agg #[.int .i64 t.k, .int .i64 t.o, .string t.n], .agg #[.int .i64 d.op, .int .i64 d.n, .slice d.so d.sl d.sc, .slice d.lo d.ll d.lc]] w' fun e w9 => MakesT s p r t n w' e w9) : Calls Try.prog 45 #[.agg #[.slice ko s.ks.length kc, .slice ao s.ac.length acp], .agg #[.string p, .string ac, .string r], .agg #[.int .i64 t.k, .int .i64 t.o, .string t.n], .agg #[.int .i64 d.op, .int .i64 d.n, .slice d.so d.sl d.sc, .slice d.lo d.ll d.lc], .int .i64 dq] w fun e w' => ZeroT w e w' := by
 obtain ⟨bX, zX, k1, k2, k3, k4, k5⟩ := alloc5 w (.cells #[.slice ko s.ks.length kc, .slice ao s.ac.length acp] 33) (.cells #[.string p, .string ac, .string r] 42) (.cells #[.int .i64 t.k, .int .i64 t.o, .string t.n] 54) (.cells #[.int .i64 d.op, .int .i64 d.n, .slice d.so d.sl d.sc, .slice d.lo d.ll d.lc] 49) (.cells #[.int .i64 0, .bool false, .int .i64 0, .string ⟨#[]⟩, .string ⟨#[]⟩, .string ⟨#[]⟩, .slice none 0 0] 39)
 obtain ⟨m, hm⟩ : ∃ m : Int, m = d.op % 12 := ⟨_, rfl⟩
 have hm12 : 0 ≤ m ∧ m < 12 := by omega
 have CW := fun w' => within11_any d.op 12 (by decide) (by decide) w'
 rw [← hm] at CW
 have Hm := hide hm
 clear hm
 have HX := hide hx
 have hg1 : GTy s ⟨1, 0, ⟨#[]⟩⟩ := .inl ⟨.inl rfl, rfl, rfl⟩
 have hg2 : GTy s ⟨2, 0, ⟨#[]⟩⟩ := .inl ⟨.inr (.inl rfl), rfl, rfl⟩
 clear hx
 go_enter Try.func45, Try.ntmps45
 go_upto_region 1 with fail
 generalize ((((w.alloc _).alloc _).alloc _).alloc _).alloc _ = w1 at *
 clear zX
 obtain ⟨cs0, cs1⟩ := bl2_ k1
 obtain ⟨cn0, cn1, cn2⟩ := bl3_ k2
 have b2 := blw1 w1 (.cells #[.slice ko s.ks.length kc, .slice ao s.ac.length acp, .string p, .string ac, .string r, .int .i64 dp] 52)
 have k6 := alloc_heap w1 (.cells #[.slice ko s.ks.length kc, .slice ao s.ac.length acp, .string p, .string ac, .string r, .int .i64 dp] 52)
 go_upto_region 2 with fail
 clear cs0 cs1 cn0 cn1 cn2
 have bX := bX.trans (b2.mono bX.size)
 have k1 := kept_of_below b2 k1
 have k2 := kept_of_below b2 k2
 have k3 := kept_of_below b2 k3
 have k4 := kept_of_below b2 k4
 have k5 := kept_of_below b2 k5
 generalize w1.alloc _ = w2 at *
 clear b2
 obtain ⟨bY, zY, k7, k8⟩ := alloc2 w2 (.cells #[.int .i64 2, .int .i64 0, .string ⟨#[]⟩] 54) (.cells #[.int .i64 1, .int .i64 0, .string ⟨#[]⟩] 54)
 go_upto_region 3 with fail
 have bX := bX.trans (bY.mono bX.size)
 have k1 := kept_of_below bY k1
 have k2 := kept_of_below bY k2
 have k3 := kept_of_below bY k3
 have k4 := kept_of_below bY k4
 have k5 := kept_of_below bY k5
 have k6 := kept_of_below bY k6
 generalize (w2.alloc _).alloc _ = w3 at *
 clear bY zY
 have rr0 : w3.cell? ⟨w.heap.size + 3, 0, none⟩ = some (.int .i64 d.op) := lc_ k4 rfl
 go_wp2_with fail
 refine (CW _).mono ?_
 clear CW rr0
 rintro e9 w9 ⟨rfl, hw9⟩
 have hw9 := hw9.symm
 subst hw9
 have hVlt : w.heap.size + 4 < w3.heap.size := (Array.getElem?_eq_some_iff.1 k5).1
 have hw3 : w.heap.size ≤ w3.heap.size := bX.size
 have CK := fun (i : Int) (h1 : 0 ≤ i ∧ i ≤ 10) w' (hb : Below w3.heap.size w3 w') => kid11_any d x i w' h1 (IsR.below (bX.trans (hb.mono bX.size)) d x (unhide HX))
 have CO := fun (t : T3) (ht : GTy s t) w' (hb : Below w3.heap.size w3 w') (d' : R4) (x' : Rw) (hx' : IsR w' d' x') => COF w' t d' x' (bX.trans (hb.mono bX.size)) ht hx'
 clear COF hdp
 obtain ⟨tt0, tt1, tt2⟩ := bl3_ k3
 obtain ⟨rr0, rr1, rr2, rr3⟩ := bl4_ k4
 obtain ⟨mk0, mk1, mk2, mk3, mk4, mk5⟩ := bl6_ k6
 have hm4 : 4 ≤ m := by rw [unhide Hm]; exact h0
 have gm0 : (m == 0) = false := by simpa using (show ¬ m = 0 by omega)
 have gm1 : ¬ m ≤ 3 := by omega
 clear h0 hm12 hm4 CK CO hg1 hg2
 obtain ⟨y0, y1, y2, y3, y4, y5, y6, yf⟩ := blk7 k5
 have HB := hide bX
 go_wp2
 exact bodyPost_ret (v := .agg #[.int .i64 0, .bool false, .int .i64 0, .string ⟨#[]⟩, .string ⟨#[]⟩, .string ⟨#[]⟩, .slice none 0 0]) (by simp [results, Try.results45, go_sem, y0, y1, y2, y3, y4, y5, y6]) rfl ⟨⟨0, false, 0, ⟨#[]⟩, ⟨#[]⟩, ⟨#[]⟩, none, 0, 0⟩, rfl, set7S_below (unhide HB) (Nat.le_add_right _ 4) _ _ _ _ _ _ _, rfl⟩
set_option maxHeartbeats 8000000 in
set_option maxRecDepth 1000000 in
theorem build11_zb (s : SP) (ko ao : Option Addr) (kc acp : Nat) (p ac r : ByteArray) (dq dp : Int) (n : Nat) (d : R4) (x : Rw) (h0 : 10 ≤ d.op % 12) (w : World) (hdp : IntKind.i64.wrap (dq - 1) = dp) (hx : IsR w d x) (COF : ∀ (w' : World) (t : T3) (d : R4) (x : Rw), Below w.heap.size w w' → GTy s t → IsR w' d x → Calls Try.prog 14 #[.agg #[.slice ko s.ks.length kc, .slice ao s.ac.length acp, .string p, .string ac, .string r, .int .i64 dp], .agg #[.int .i64 t.k, .int .i64 t.o, .string t.n], .agg #[.int .i64 d.op, .int .i64 d.n, .slice d.so d.sl d.sc, .slice d.lo d.ll d.lc]] w' fun e w9 => MakesT s p r t n w' e w9) : Calls Try.prog 45 #[.agg #[.slice ko s.ks.length kc, .slice ao s.ac.length acp], .agg #[.string p, .string ac, .string r], .agg #[.int .i64 2, .int .i64 0, .string ⟨#[]⟩], .agg #[.int .i64 d.op, .int .i64 d.n, .slice d.so d.sl d.sc, .slice d.lo d.ll d.lc], .int .i64 dq] w fun e w' => ZeroT w e w' := by
 obtain ⟨bX, zX, k1, k2, k3, k4, k5⟩ := alloc5 w (.cells #[.slice ko s.ks.length kc, .slice ao s.ac.length acp] 33) (.cells #[.string p, .string ac, .string r] 42) (.cells #[.int .i64 2, .int .i64 0, .string ⟨#[]⟩] 54) (.cells #[.int .i64 d.op, .int .i64 d.n, .slice d.so d.sl d.sc, .slice d.lo d.ll d.lc] 49) (.cells #[.int .i64 0, .bool false, .int .i64 0, .string ⟨#[]⟩, .string ⟨#[]⟩, .string ⟨#[]⟩, .slice none 0 0] 39)
 obtain ⟨m, hm⟩ : ∃ m : Int, m = d.op % 12 := ⟨_, rfl⟩
 have hm12 : 0 ≤ m ∧ m < 12 := by omega
 have CW := fun w' => within11_any d.op 12 (by decide) (by decide) w'
 rw [← hm] at CW
 have Hm := hide hm
 clear hm
 have HX := hide hx
 have hg1 : GTy s ⟨1, 0, ⟨#[]⟩⟩ := .inl ⟨.inl rfl, rfl, rfl⟩
 have hg2 : GTy s ⟨2, 0, ⟨#[]⟩⟩ := .inl ⟨.inr (.inl rfl), rfl, rfl⟩
 clear hx
 go_enter Try.func45, Try.ntmps45
 go_upto_region 1 with fail
 generalize ((((w.alloc _).alloc _).alloc _).alloc _).alloc _ = w1 at *
 clear zX
 obtain ⟨cs0, cs1⟩ := bl2_ k1
 obtain ⟨cn0, cn1, cn2⟩ := bl3_ k2
 have b2 := blw1 w1 (.cells #[.slice ko s.ks.length kc, .slice ao s.ac.length acp, .string p, .string ac, .string r, .int .i64 dp] 52)
 have k6 := alloc_heap w1 (.cells #[.slice ko s.ks.length kc, .slice ao s.ac.length acp, .string p, .string ac, .string r, .int .i64 dp] 52)
 go_upto_region 2 with fail
 clear cs0 cs1 cn0 cn1 cn2
 have bX := bX.trans (b2.mono bX.size)
 have k1 := kept_of_below b2 k1
 have k2 := kept_of_below b2 k2
 have k3 := kept_of_below b2 k3
 have k4 := kept_of_below b2 k4
 have k5 := kept_of_below b2 k5
 generalize w1.alloc _ = w2 at *
 clear b2
 obtain ⟨bY, zY, k7, k8⟩ := alloc2 w2 (.cells #[.int .i64 2, .int .i64 0, .string ⟨#[]⟩] 54) (.cells #[.int .i64 1, .int .i64 0, .string ⟨#[]⟩] 54)
 go_upto_region 3 with fail
 have bX := bX.trans (bY.mono bX.size)
 have k1 := kept_of_below bY k1
 have k2 := kept_of_below bY k2
 have k3 := kept_of_below bY k3
 have k4 := kept_of_below bY k4
 have k5 := kept_of_below bY k5
 have k6 := kept_of_below bY k6
 generalize (w2.alloc _).alloc _ = w3 at *
 clear bY zY
 have rr0 : w3.cell? ⟨w.heap.size + 3, 0, none⟩ = some (.int .i64 d.op) := lc_ k4 rfl
 go_wp2_with fail
 refine (CW _).mono ?_
 clear CW rr0
 rintro e9 w9 ⟨rfl, hw9⟩
 have hw9 := hw9.symm
 subst hw9
 have hVlt : w.heap.size + 4 < w3.heap.size := (Array.getElem?_eq_some_iff.1 k5).1
 have hw3 : w.heap.size ≤ w3.heap.size := bX.size
 have CK := fun (i : Int) (h1 : 0 ≤ i ∧ i ≤ 10) w' (hb : Below w3.heap.size w3 w') => kid11_any d x i w' h1 (IsR.below (bX.trans (hb.mono bX.size)) d x (unhide HX))
 have CO := fun (t : T3) (ht : GTy s t) w' (hb : Below w3.heap.size w3 w') (d' : R4) (x' : Rw) (hx' : IsR w' d' x') => COF w' t d' x' (bX.trans (hb.mono bX.size)) ht hx'
 clear COF hdp
 obtain ⟨tt0, tt1, tt2⟩ := bl3_ k3
 obtain ⟨rr0, rr1, rr2, rr3⟩ := bl4_ k4
 obtain ⟨mk0, mk1, mk2, mk3, mk4, mk5⟩ := bl6_ k6
 have hm4 : 10 ≤ m := by rw [unhide Hm]; exact h0
 have gm0 : (m == 0) = false := by simpa using (show ¬ m = 0 by omega)
 have gm1 : ¬ m ≤ 3 := by omega
 have gm2 : ¬ m ≤ 8 := by omega
 have gm3 : (m == 9) = false := by simpa using (show ¬ m = 9 by omega)
 clear h0 hm12 hm4 CK CO hg1 hg2
 obtain ⟨y0, y1, y2, y3, y4, y5, y6, yf⟩ := blk7 k5
 have HB := hide bX
 go_wp2
 exact bodyPost_ret (v := .agg #[.int .i64 0, .bool false, .int .i64 0, .string ⟨#[]⟩, .string ⟨#[]⟩, .string ⟨#[]⟩, .slice none 0 0]) (by simp [results, Try.results45, go_sem, y0, y1, y2, y3, y4, y5, y6]) rfl ⟨⟨0, false, 0, ⟨#[]⟩, ⟨#[]⟩, ⟨#[]⟩, none, 0, 0⟩, rfl, set7S_below (unhide HB) (Nat.le_add_right _ 4) _ _ _ _ _ _ _, rfl⟩
end Go.Proofs.Ytagnbpobcijakaa

namespace Go.Proofs.Ytagnbpobcijakaa
open Go.RowKit Go.Sort

/-- Of a schema's kinds: each one is found by its name, each field by its own. -/
structure FSch (s : SP) : Prop where
 nk : s.ks.length ≤ 20
 nf : ∀ k ∈ s.ks, k.fs.length ≤ 4
 kn : ∀ k ∈ s.ks, isKn s k.nm ∧ ∀ f ∈ k.fs, fieldT s k.nm f.nm = (⟨f.k, f.o, f.tn⟩, 0)
set_option maxHeartbeats 8000000 in
set_option maxRecDepth 1000000 in
theorem build11_f (s : SP) (ko ao : Option Addr) (kc acp : Nat) (p ac r : ByteArray) (dq dp : Int) (n : Nat) (d : R4) (x : Rw) (t : T3) (hfs : FSch s) (h0 : 1 ≤ d.op % 12 ∧ d.op % 12 ≤ 3) (w : World) (hKs : IsKs w ko s.ks) (hdp : IntKind.i64.wrap (dq - 1) = dp) (hx : IsR w d x) (COF : ∀ (w' : World) (t : T3) (d : R4) (x : Rw), Below w.heap.size w w' → GTy s t → IsR w' d x → Calls Try.prog 14 #[.agg #[.slice ko s.ks.length kc, .slice ao s.ac.length acp, .string p, .string ac, .string r, .int .i64 dp], .agg #[.int .i64 t.k, .int .i64 t.o, .string t.n], .agg #[.int .i64 d.op, .int .i64 d.n, .slice d.so d.sl d.sc, .slice d.lo d.ll d.lc]] w' fun e w9 => MakesT s p r t n w' e w9) : Calls Try.prog 45 #[.agg #[.slice ko s.ks.length kc, .slice ao s.ac.length acp], .agg #[.string p, .string ac, .string r], .agg #[.int .i64 t.k, .int .i64 t.o, .string t.n], .agg #[.int .i64 d.op, .int .i64 d.n, .slice d.so d.sl d.sc, .slice d.lo d.ll d.lc], .int .i64 dq] w fun e w' => MakesT s p r t (n + 1) w e w' ∨ ZeroT w e w' := by
 obtain ⟨bX, zX, k1, k2, k3, k4, k5⟩ := alloc5 w (.cells #[.slice ko s.ks.length kc, .slice ao s.ac.length acp] 33) (.cells #[.string p, .string ac, .string r] 42) (.cells #[.int .i64 t.k, .int .i64 t.o, .string t.n] 54) (.cells #[.int .i64 d.op, .int .i64 d.n, .slice d.so d.sl d.sc, .slice d.lo d.ll d.lc] 49) (.cells #[.int .i64 0, .bool false, .int .i64 0, .string ⟨#[]⟩, .string ⟨#[]⟩, .string ⟨#[]⟩, .slice none 0 0] 39)
 obtain ⟨m, hm⟩ : ∃ m : Int, m = d.op % 12 := ⟨_, rfl⟩
 have hm12 : 0 ≤ m ∧ m < 12 := by omega
 have CW := fun w' => within11_any d.op 12 (by decide) (by decide) w'
 rw [← hm] at CW
 have Hm := hide hm
 clear hm
 have HX := hide hx
 have hg1 : GTy s ⟨1, 0, ⟨#[]⟩⟩ := .inl ⟨.inl rfl, rfl, rfl⟩
 have hg2 : GTy s ⟨2, 0, ⟨#[]⟩⟩ := .inl ⟨.inr (.inl rfl), rfl, rfl⟩
 have HKs := hide hKs
 have HFS := hide hfs
 have hnk := hfs.nk
 clear hx hKs hfs
 go_enter Try.func45, Try.ntmps45
 go_upto_region 1 with fail
 generalize ((((w.alloc _).alloc _).alloc _).alloc _).alloc _ = w1 at *
 clear zX
 obtain ⟨cs0, cs1⟩ := bl2_ k1
 obtain ⟨cn0, cn1, cn2⟩ := bl3_ k2
 have b2 := blw1 w1 (.cells #[.slice ko s.ks.length kc, .slice ao s.ac.length acp, .string p, .string ac, .string r, .int .i64 dp] 52)
 have k6 := alloc_heap w1 (.cells #[.slice ko s.ks.length kc, .slice ao s.ac.length acp, .string p, .string ac, .string r, .int .i64 dp] 52)
 go_upto_region 2 with fail
 clear cs0 cs1 cn0 cn1 cn2
 have bX := bX.trans (b2.mono bX.size)
 have k1 := kept_of_below b2 k1
 have k2 := kept_of_below b2 k2
 have k3 := kept_of_below b2 k3
 have k4 := kept_of_below b2 k4
 have k5 := kept_of_below b2 k5
 generalize w1.alloc _ = w2 at *
 clear b2
 obtain ⟨bY, zY, k7, k8⟩ := alloc2 w2 (.cells #[.int .i64 2, .int .i64 0, .string ⟨#[]⟩] 54) (.cells #[.int .i64 1, .int .i64 0, .string ⟨#[]⟩] 54)
 go_upto_region 3 with fail
 have bX := bX.trans (bY.mono bX.size)
 have k1 := kept_of_below bY k1
 have k2 := kept_of_below bY k2
 have k3 := kept_of_below bY k3
 have k4 := kept_of_below bY k4
 have k5 := kept_of_below bY k5
 have k6 := kept_of_below bY k6
 generalize (w2.alloc _).alloc _ = w3 at *
 clear bY zY
 have rr0 : w3.cell? ⟨w.heap.size + 3, 0, none⟩ = some (.int .i64 d.op) := lc_ k4 rfl
 go_wp2_with fail
 refine (CW _).mono ?_
 clear CW rr0
 rintro e9 w9 ⟨rfl, hw9⟩
 have hw9 := hw9.symm
 subst hw9
 have hVlt : w.heap.size + 4 < w3.heap.size := (Array.getElem?_eq_some_iff.1 k5).1
 have hw3 : w.heap.size ≤ w3.heap.size := bX.size
 have CK := fun (i : Int) (h1 : 0 ≤ i ∧ i ≤ 10) w' (hb : Below w3.heap.size w3 w') => kid11_any d x i w' h1 (IsR.below (bX.trans (hb.mono bX.size)) d x (unhide HX))
 have CO := fun (t : T3) (ht : GTy s t) w' (hb : Below w3.heap.size w3 w') (d' : R4) (x' : Rw) (hx' : IsR w' d' x') => COF w' t d' x' (bX.trans (hb.mono bX.size)) ht hx'
 clear COF hdp
 obtain ⟨tt0, tt1, tt2⟩ := bl3_ k3
 obtain ⟨rr0, rr1, rr2, rr3⟩ := bl4_ k4
 obtain ⟨mk0, mk1, mk2, mk3, mk4, mk5⟩ := bl6_ k6
 have hm4 : 1 ≤ m ∧ m ≤ 3 := by rw [unhide Hm]; exact h0
 have gm0 : (m == 0) = false := by simpa using (show ¬ m = 0 by omega)
 have gm1 : m ≤ 3 := hm4.2
 clear h0 hm12 hm4
 clear tt0 tt1 tt2 rr0 rr1 rr2 rr3 mk0 mk1 mk2 mk3 mk4 mk5
 go_wp2_with fail
 go_loopw [15] (fun iv wr => ∃ i : Nat, iv = .int .i64 i ∧ i ≤ s.ks.length ∧ Below w3.heap.size w3 wr) (fun iv _ => s.ks.length - (intOf iv).toNat)
 case atStart => exact ⟨0, by go_num, Nat.zero_le _, Below.refl _ _⟩
 case round =>
  obtain ⟨i, rfl, hil, hbr⟩ := hrel
  have bXr := bX.trans (hbr.mono bX.size)
  have k1r := kept_of_below hbr k1
  have k4r := kept_of_below hbr k4
  have k5r := kept_of_below hbr k5
  have c0 : wr.cell? ⟨w.heap.size, 0, none⟩ = some (.slice ko s.ks.length kc) := lc_ k1r rfl
  by_cases hlt : i < s.ks.length
  ·have i0 : (0 : Int) ≤ (i : Int) := by omega
   have i1 : (i : Int) < (s.ks.length : Int) := by omega
   obtain ⟨z, hz⟩ : ∃ z, z = IntKind.i64.wrap (d.n + (i : Int)) := ⟨_, rfl⟩
   have hz2 := hz.symm
   obtain ⟨jj, hjl, CWk⟩ : ∃ jj : Nat, jj < s.ks.length ∧ ∀ w' : World, Calls Try.prog 16 #[.int .i64 z, .int .i64 (s.ks.length : Int)] w' fun e w'' => e = .returned (.int .i64 (jj : Int)) ∧ w'' = w' := by
    have g1 := Int.emod_nonneg z (show (s.ks.length : Int) ≠ 0 by omega)
    have g2 := Int.emod_lt_of_pos z (show (0 : Int) < (s.ks.length : Int) by omega)
    refine ⟨(z % (s.ks.length : Int)).toNat, by omega, fun w' => ?_⟩
    rw [show ((z % (s.ks.length : Int)).toNat : Int) = z % (s.ks.length : Int) by omega]
    exact within11_any z (s.ks.length : Int) (by omega) (by omega) w'
   obtain ⟨x_, kb, ko_, hko, hkb0, ⟨n0, n1, n2⟩, hIK⟩ := (unhide HKs).get bXr hjl
   have hkb : kb < wr.heap.size := by have := bXr.size; omega
   have hfl := (unhide HFS).nf _ (List.getElem_mem hjl)
   have HGs := hide ((unhide HFS).kn _ (List.getElem_mem hjl))
   obtain ⟨K, hKe⟩ : ∃ K, K = s.ks[jj]'hjl := ⟨_, rfl⟩
   rw [← hKe] at hIK hfl HGs
   obtain ⟨xn, xao, xal, xac, xbo, nf, xbc⟩ := x_
   obtain ⟨e1, e2, e3, e4, hXf⟩ := hIK
   simp only at e1 e2 e3 e4 hXf n0 n1 n2
   have Hnf := hide e4
   have hnf : nf ≤ 4 := by rw [e4]; exact hfl
   rw [← e1] at HGs
   clear e1 e2 e3 e4 hfl hKe hz HKs
   subst hko
   go_upto_region 10 with fail
   clear c0
   refine wp_specs_put 13 (SpS [.eq (.pointer (some ⟨w.heap.size, 0, none⟩)), .eq (.slice (some ⟨kb, ko_, none⟩) s.ks.length kc), .eq (.pointer (some ⟨w.heap.size + 3, 1, none⟩)), .eq (.int .i64 d.n), .eq (.int .i64 i), .eq (.int .i64 z), .eq (.pointer (some ⟨w.heap.size, 0, none⟩)), .eq (.slice (some ⟨kb, ko_, none⟩) s.ks.length kc), .eq (.int .i64 (s.ks.length : Nat)), .eq (.int .i64 (jj : Nat)), .eq (.pointer (some ⟨kb, ko_ + jj * 3, none⟩)), .eq (.agg #[.string xn, .slice xao xal xac, .slice xbo nf xbc]), .blk (wr.heap.size) (fun b => .pointer (some ⟨b, 0, none⟩)) (.cells #[.string ⟨#[]⟩, .slice none 0 0, .slice none 0 0] 80 (0, 0))]) (fun w' => Below wr.heap.size wr w') (by kernel_rfl) (by kernel_rfl) (Below.refl _ wr).drew ?_ ?_
   ·intro q o hq' ho a' w' hR hdep hslot K hK
    have m1 := kept_of_below hR k1r
    have m4 := kept_of_below hR k4r
    have c0 : w'.cell? ⟨w.heap.size, 0, none⟩ = some (.slice (some ⟨kb, ko_, none⟩) s.ks.length kc) := lc_ m1 rfl
    have rr1 : w'.cell? ⟨w.heap.size + 3, 1, none⟩ = some (.int .i64 d.n) := lc_ m4 rfl
    have hz := hz2
    have l0 : (0 : Int) ≤ (jj : Int) := by omega
    have l1 : (jj : Int) < (s.ks.length : Int) := by omega
    have x0 := (hR.cell (p := ⟨kb, ko_ + jj * 3, none⟩) hkb).trans n0
    have x1 := (hR.cell (p := ⟨kb, ko_ + jj * 3 + 1, none⟩) hkb).trans n1
    have x2 := (hR.cell (p := ⟨kb, ko_ + jj * 3 + 2, none⟩) hkb).trans n2
    clear m1 m4
    have hc : q = 0 ∨ q = 1 ∨ q = 2 ∨ q = 3 ∨ q = 4 ∨ q = 5 ∨ q = 6 ∨ q = 7 ∨ q = 8 ∨ q = 9 ∨ q = 10 ∨ q = 11 ∨ q = 12 := by omega
    rcases hc with rfl | rfl | rfl | rfl | rfl | rfl | rfl | rfl | rfl | rfl | rfl | rfl | rfl
    ·cases ho
     have e0 : a'.tmps.getD 5 undef = .pointer (some ⟨w.heap.size, 0, none⟩) := hslot 5 (by decide)
     clear c0 rr1 hz x0 x1 x2 l0 l1
     unfold Oper.wp
     go_simp
     exact hK _ _ rfl hR (fun _ _ h => h)
    ·cases ho
     have e0 : a'.tmps.getD 60 undef = .pointer (some ⟨w.heap.size, 0, none⟩) := hdep 0 (by kernel_rfl)
     have e0' := gd_ e0
     clear rr1 hz x0 x1 x2 l0 l1
     unfold Oper.wp
     go_simp
     exact hK _ _ rfl hR (fun _ _ h => h)
    ·cases ho
     have e0 : a'.tmps.getD 8 undef = .pointer (some ⟨w.heap.size + 3, 0, none⟩) := hslot 8 (by decide)
     clear c0 rr1 hz x0 x1 x2 l0 l1
     unfold Oper.wp
     go_simp
     exact hK _ _ rfl hR (fun _ _ h => h)
    ·cases ho
     have e0 : a'.tmps.getD 62 undef = .pointer (some ⟨w.heap.size + 3, 1, none⟩) := hdep 2 (by kernel_rfl)
     have e0' := gd_ e0
     clear c0 hz x0 x1 x2 l0 l1
     unfold Oper.wp
     go_simp
     exact hK _ _ rfl hR (fun _ _ h => h)
    ·cases ho
     have e0 : a'.tmps.getD 15 undef = .int .i64 i := hslot 15 (by decide)
     clear c0 rr1 hz x0 x1 x2 l0 l1
     unfold Oper.wp
     go_simp
     exact hK _ _ rfl hR (fun _ _ h => h)
    ·cases ho
     have e0 : a'.tmps.getD 63 undef = .int .i64 d.n := hdep 3 (by kernel_rfl)
     have e0' := gd_ e0
     have e1 : a'.tmps.getD 64 undef = .int .i64 i := hdep 4 (by kernel_rfl)
     have e1' := gd_ e1
     clear c0 rr1 x0 x1 x2 l0 l1
     unfold Oper.wp
     go_simp
     exact hK _ _ rfl hR (fun _ _ h => h)
    ·cases ho
     have e0 : a'.tmps.getD 5 undef = .pointer (some ⟨w.heap.size, 0, none⟩) := hslot 5 (by decide)
     clear c0 rr1 hz x0 x1 x2 l0 l1
     unfold Oper.wp
     go_simp
     exact hK _ _ rfl hR (fun _ _ h => h)
    ·cases ho
     have e0 : a'.tmps.getD 66 undef = .pointer (some ⟨w.heap.size, 0, none⟩) := hdep 6 (by kernel_rfl)
     have e0' := gd_ e0
     clear rr1 hz x0 x1 x2 l0 l1
     unfold Oper.wp
     go_simp
     exact hK _ _ rfl hR (fun _ _ h => h)
    ·cases ho
     have e0 : a'.tmps.getD 67 undef = .slice (some ⟨kb, ko_, none⟩) s.ks.length kc := hdep 7 (by kernel_rfl)
     have e0' := gd_ e0
     clear c0 rr1 hz x0 x1 x2 l0 l1
     unfold Oper.wp
     go_simp
     exact hK _ _ rfl hR (fun _ _ h => h)
    ·cases ho
     have e0 : a'.tmps.getD 65 undef = .int .i64 z := hdep 5 (by kernel_rfl)
     have e0' := gd_ e0
     have e1 : a'.tmps.getD 68 undef = .int .i64 (s.ks.length : Nat) := hdep 8 (by kernel_rfl)
     have e1' := gd_ e1
     clear c0 rr1 hz x0 x1 x2 l0 l1
     unfold Oper.wp
     go_simp
     refine (CWk w').mono ?_
     rintro e w9 ⟨rfl, hw9⟩
     subst hw9
     exact hK _ _ rfl hR (fun _ _ h => h)
    ·cases ho
     have e0 : a'.tmps.getD 61 undef = .slice (some ⟨kb, ko_, none⟩) s.ks.length kc := hdep 1 (by kernel_rfl)
     have e0' := gd_ e0
     have e1 : a'.tmps.getD 69 undef = .int .i64 (jj : Nat) := hdep 9 (by kernel_rfl)
     have e1' := gd_ e1
     clear c0 rr1 hz x0 x1 x2
     unfold Oper.wp
     go_simp
     exact hK _ _ rfl hR (fun _ _ h => h)
    ·cases ho
     have e0 : a'.tmps.getD 70 undef = .pointer (some ⟨kb, ko_ + jj * 3, none⟩) := hdep 10 (by kernel_rfl)
     have e0' := gd_ e0
     clear c0 rr1 hz l0 l1
     unfold Oper.wp
     go_simp
     exact hK _ _ rfl hR (fun _ _ h => h)
    ·cases ho
     clear c0 rr1 hz x0 x1 x2 l0 l1
     unfold Oper.wp
     go_simp
     exact hK _ _ ⟨w'.heap.size, hR.size, rfl, alloc_heap _ _⟩ (hR.alloc hR.size _) (SpS.up (blw1 _ _))
   ·intro v w' hR hall
    have f0 : v 0 = .pointer (some ⟨w.heap.size, 0, none⟩) := hall 0 (by decide)
    have f1 : v 1 = .slice (some ⟨kb, ko_, none⟩) s.ks.length kc := hall 1 (by decide)
    have f2 : v 2 = .pointer (some ⟨w.heap.size + 3, 1, none⟩) := hall 2 (by decide)
    have f3 : v 3 = .int .i64 d.n := hall 3 (by decide)
    have f4 : v 4 = .int .i64 i := hall 4 (by decide)
    have f5 : v 5 = .int .i64 z := hall 5 (by decide)
    have f6 : v 6 = .pointer (some ⟨w.heap.size, 0, none⟩) := hall 6 (by decide)
    have f7 : v 7 = .slice (some ⟨kb, ko_, none⟩) s.ks.length kc := hall 7 (by decide)
    have f8 : v 8 = .int .i64 (s.ks.length : Nat) := hall 8 (by decide)
    have f9 : v 9 = .int .i64 (jj : Nat) := hall 9 (by decide)
    have f10 : v 10 = .pointer (some ⟨kb, ko_ + jj * 3, none⟩) := hall 10 (by decide)
    have f11 : v 11 = .agg #[.string xn, .slice xao xal xac, .slice xbo nf xbc] := hall 11 (by decide)
    obtain ⟨b12, hB12, f12, ho12⟩ : (.blk (wr.heap.size) (fun b => .pointer (some ⟨b, 0, none⟩)) (.cells #[.string ⟨#[]⟩, .slice none 0 0, .slice none 0 0] 80 (0, 0)) : Sv).sp (v 12) w' := hall 12 (by decide)
    clear hall
    simp only [putAll, dstOf, List.getElem?_cons_zero, List.getElem?_cons_succ, Option.bind_some, List.drop_succ_cons, List.drop_zero, f0, f1, f2, f3, f4, f5, f6, f7, f8, f9, f10, f11, f12]
    clear f0 f1 f2 f3 f4 f5 f6 f7 f8 f9 f10 f11 f12
    simp only [Act.put, List.setIfInBounds_toArray, List.set_cons_succ, List.set_cons_zero]
    obtain ⟨V, hVz, eV, hV⟩ : ∃ V, wr.heap.size ≤ V ∧ (V = b12 ∧ w'.heap[V]? = some (.cells #[.string ⟨#[]⟩, .slice none 0 0, .slice none 0 0] 80 (0, 0))) := ⟨b12, hB12, rfl, ho12⟩
    subst eV
    obtain ⟨z0, z1, z2⟩ := bl3_ hV
    have zf : ∀ o, w'.frozen? ⟨V, o, none⟩ = false := fun o => Lib.frozen_of_heap hV o
    have HQ := hide (heap_setCell_same _ V 2 _ _ (.slice xbo nf xbc) (heap_setCell_same _ V 1 _ _ (.slice xao xal xac) (heap_setCell_same w' V 0 _ _ (.string xn) hV)))
    have HW := hide (set3_below (.string xn) (.slice xao xal xac) (.slice xbo nf xbc) hR hVz)
    clear hV ho12 hz2
    go_upto_region 11 with fail
    clear z0 z1 z2 zf
    have hKV := unhide HQ
    have b56 := unhide HW
    clear HQ HW
    generalize ((w'.setCell _ _).setCell _ _).setCell _ _ = w6 at *
    have b06 := bXr.trans (b56.mono bXr.size)
    have b36 := hbr.trans (b56.mono hbr.size)
    have HXf := hide (hXf.below b56)
    go_wp2_with fail
    go_loopw [17] (fun jv wq => ∃ jf : Nat, jv = .int .i64 jf ∧ jf ≤ nf ∧ Below w6.heap.size w6 wq) (fun jv _ => nf - (intOf jv).toNat)
    case atStart => exact ⟨0, by go_num, Nat.zero_le _, Below.refl _ _⟩
    case round =>
     rename World => wq
     obtain ⟨jf, rfl, hjf, hbq⟩ := hrel
     have b3q := b36.trans (hbq.mono b36.size)
     have hKq := kept_of_below hbq hKV
     have qf : wq.cell? ⟨V, 2, none⟩ = some (.slice xbo nf xbc) := lc_ hKq rfl
     by_cases hlf : jf < nf
     ·have l2 : (0 : Int) ≤ (jf : Int) := by omega
      have l3 : (jf : Int) < (nf : Int) := by omega
      have hlf' : jf < K.fs.length := by rw [← unhide Hnf]; exact hlf
      obtain ⟨fb, fo, rfl, hfb, ⟨a0, a1, a2, a3⟩⟩ := (unhide HXf).get hbq hlf'
      have HFt := hide ((unhide HGs).2 _ (List.getElem_mem hlf'))
      obtain ⟨F, hF⟩ : ∃ F, F = K.fs[jf]'hlf' := ⟨_, rfl⟩
      rw [← hF] at a0 a1 a2 a3 HFt
      clear hF hlf'
      have k3q := kept_of_below b3q k3
      obtain ⟨tt0, tt1, tt2⟩ := bl3_ k3q
      have BT := binEqlT3 ⟨F.k, F.o, F.tn⟩ t
      simp only at BT
      have HFE := hide (show ∀ zb, zb = decide ((⟨F.k, F.o, F.tn⟩ : T3) = t) → zb = true → (⟨F.k, F.o, F.tn⟩ : T3) = t from fun zb hzb h => of_decide_eq_true (hzb.symm.trans h))
      obtain ⟨zb, hzb⟩ : ∃ zb, zb = decide ((⟨F.k, F.o, F.tn⟩ : T3) = t) := ⟨_, rfl⟩
      rw [← hzb] at BT
      have HFz := hide (unhide HFE zb hzb)
      clear hzb HFE
      go_upto_region 14 with fail
      have g1 := cell_regrown qf
      have g2 := cell_regrown a1
      have g3 := cell_regrown a2
      have g4 := cell_regrown a3
      have g5 := cell_regrown tt0
      have g6 := cell_regrown tt1
      have g7 := cell_regrown tt2
      clear qf a1 a2 a3 tt0 tt1 tt2
      refine wp_region_quiet_below (by kernel_rfl) (by kernel_rfl) ?_
      repeat (first | go_big_quiet_step (fail) | quiet_step (fail))
      refine wpQuiet_nil ?_
      intro _ hw'
      obtain ⟨⟨dq2, osq2⟩, hw''⟩ := hw'
      subst hw''
      have b11 := below_regrown wq dq2 osq2
      generalize grow (redrawn wq dq2) osq2 = w7 at *
      clear g1 g2 g3 g4 g5 g6 g7 BT
      cases zb
      ·have hb7 := hbq.trans (b11.mono hbq.size)
       clear HFz HFt
       go_wp2
       go_roundw
       case rel => exact ⟨jf + 1, by go_num, by omega, hb7⟩
       case measure =>
        simp only [intOf]
        omega
      ·have b37 := b3q.trans (b11.mono b3q.size)
       have hKV7 := kept_of_below b11 hKq
       have hfb7 : fb < w7.heap.size := by have := b11.size; have := hbq.size; omega
       have ff0 := (b11.cell (p := ⟨fb, fo + jf * 4, none⟩) (by have := hbq.size; show fb < _; omega)).trans a0
       obtain ⟨fl, hfl⟩ : ∃ fl : List UInt8, F.nm = ba fl := ⟨F.nm.data.toList, (ba_back F.nm).symm⟩
       rw [hfl] at ff0 HFt
       have hgx : GTy s ⟨4, 0, xn⟩ := .inr (.inl ⟨rfl, rfl, (unhide HGs).1⟩)
       have HT := hide (show nodeT s p r 7 (ba fl) (ba []) (ba []) [⟨4, 0, xn⟩] = (t, 0) from by
        show (if (4 : Int) = 4 then fieldT s xn (ba fl) else (zT, 16)) = _
        rw [if_pos rfl, unhide HFt, unhide HFz rfl])
       clear hfl a0 HFz HFt
       have k1 := kept_of_below b37 k1
       have k2 := kept_of_below b37 k2
       have k3 := kept_of_below b37 k3
       have k4 := kept_of_below b37 k4
       have k5 := kept_of_below b37 k5
       have k6 := kept_of_below b37 k6
       have k7 := kept_of_below b37 k7
       have k8 := kept_of_below b37 k8
       have bX := bX.trans (b37.mono bX.size)
       have hVlt : w.heap.size + 4 < w7.heap.size := (Array.getElem?_eq_some_iff.1 k5).1
       have hw3 : w.heap.size ≤ w7.heap.size := bX.size
       have CK := fun (i : Int) (h1 : 0 ≤ i ∧ i ≤ 10) w' (hb : Below w7.heap.size w7 w') => CK i h1 w' (b37.trans (hb.mono b37.size))
       have CO := fun (t : T3) (ht : GTy s t) w' (hb : Below w7.heap.size w7 w') (d' : R4) (x' : Rw) (hx' : IsR w' d' x') => CO t ht w' (b37.trans (hb.mono b37.size)) d' x' hx'
       go_upto_region 15 with fail
       refine wp_specs_put 15 (SpM [.eq (.pointer (some ⟨V, 2, none⟩)), .eq (.slice (some ⟨fb, fo, none⟩) nf xbc), .eq (.int .i64 jf), .eq (.pointer (some ⟨fb, fo + jf * 4, none⟩)), .eq (.pointer (some ⟨fb, fo + jf * 4, none⟩)), .eq (.string (ba fl)), .eq (.agg #[.slice (some ⟨kb, ko_, none⟩) s.ks.length kc, .slice ao s.ac.length acp, .string p, .string ac, .string r, .int .i64 dp]), .eq (.pointer (some ⟨V, 0, none⟩)), .eq (.string xn), .eq (.agg #[.int .i64 4, .int .i64 0, .string xn]), .eq (.agg #[.int .i64 d.op, .int .i64 d.n, .slice d.so d.sl d.sc, .slice d.lo d.ll d.lc]), .up (rawP), .up (treeP w7.heap.size s p r ⟨4, 0, xn⟩ n), .up (rowP w7.heap.size s p r [⟨4, 0, xn⟩] n 1), .up (treeP w7.heap.size s p r t (n + 1))]) (fun w' => Below w7.heap.size w7 w') (by kernel_rfl) (by kernel_rfl) (Below.refl _ w7).drew ?_ ?_
       ·intro q o hq' ho a' w' hR hdep hslot K hK
        have m3 := kept_of_below hR k3
        have m4 := kept_of_below hR k4
        have m6 := kept_of_below hR k6
        have m7 := kept_of_below hR k7
        have m8 := kept_of_below hR k8
        obtain ⟨tt0, tt1, tt2⟩ := bl3_ m3
        obtain ⟨rr0, rr1, rr2, rr3⟩ := bl4_ m4
        obtain ⟨mk0, mk1, mk2, mk3, mk4, mk5⟩ := bl6_ m6
        obtain ⟨u0, u1, u2⟩ := bl3_ m7
        obtain ⟨tr0, tr1, tr2⟩ := bl3_ m8
        clear m3 m4 m6 m7 m8
        have hK7 := kept_of_below hR hKV7
        have vq0 : w'.cell? ⟨V, 0, none⟩ = some (.string xn) := lc_ hK7 rfl
        have vq2 : w'.cell? ⟨V, 2, none⟩ = some (.slice (some ⟨fb, fo, none⟩) nf xbc) := lc_ hK7 rfl
        have f0 := (hR.cell (p := ⟨fb, fo + jf * 4, none⟩) hfb7).trans ff0
        have l2 : (0 : Int) ≤ (jf : Int) := by omega
        have l3 : (jf : Int) < (nf : Int) := by omega
        clear hK7
        have hc : q = 0 ∨ q = 1 ∨ q = 2 ∨ q = 3 ∨ q = 4 ∨ q = 5 ∨ q = 6 ∨ q = 7 ∨ q = 8 ∨ q = 9 ∨ q = 10 ∨ q = 11 ∨ q = 12 ∨ q = 13 ∨ q = 14 := by omega
        rcases hc with rfl | rfl | rfl | rfl | rfl | rfl | rfl | rfl | rfl | rfl | rfl | rfl | rfl | rfl | rfl
        ·cases ho
         have e0 : a'.tmps.getD 16 undef = .pointer (some ⟨V, 0, none⟩) := hslot 16 (by decide)
         clear mk0 mk1 mk2 mk3 mk4 mk5 rr0 rr1 rr2 rr3 u0 u1 u2 tr0 tr1 tr2 tt0 tt1 tt2 vq0 vq2 f0 l2 l3
         unfold Oper.wp
         go_simp
         exact hK _ _ rfl hR (fun _ _ h => h)
        ·cases ho
         have e0 : a'.tmps.getD 87 undef = .pointer (some ⟨V, 2, none⟩) := hdep 0 (by kernel_rfl)
         have e0' := gd_ e0
         clear mk0 mk1 mk2 mk3 mk4 mk5 rr0 rr1 rr2 rr3 u0 u1 u2 tr0 tr1 tr2 tt0 tt1 tt2 vq0 f0 l2 l3
         unfold Oper.wp
         go_simp
         exact hK _ _ rfl hR (fun _ _ h => h)
        ·cases ho
         have e0 : a'.tmps.getD 17 undef = .int .i64 jf := hslot 17 (by decide)
         clear mk0 mk1 mk2 mk3 mk4 mk5 rr0 rr1 rr2 rr3 u0 u1 u2 tr0 tr1 tr2 tt0 tt1 tt2 vq0 vq2 f0 l2 l3
         unfold Oper.wp
         go_simp
         exact hK _ _ rfl hR (fun _ _ h => h)
        ·cases ho
         have e0 : a'.tmps.getD 88 undef = .slice (some ⟨fb, fo, none⟩) nf xbc := hdep 1 (by kernel_rfl)
         have e0' := gd_ e0
         have e1 : a'.tmps.getD 89 undef = .int .i64 jf := hdep 2 (by kernel_rfl)
         have e1' := gd_ e1
         clear mk0 mk1 mk2 mk3 mk4 mk5 rr0 rr1 rr2 rr3 u0 u1 u2 tr0 tr1 tr2 tt0 tt1 tt2 vq0 vq2 f0
         unfold Oper.wp
         go_simp
         exact hK _ _ rfl hR (fun _ _ h => h)
        ·cases ho
         have e0 : a'.tmps.getD 90 undef = .pointer (some ⟨fb, fo + jf * 4, none⟩) := hdep 3 (by kernel_rfl)
         have e0' := gd_ e0
         clear mk0 mk1 mk2 mk3 mk4 mk5 rr0 rr1 rr2 rr3 u0 u1 u2 tr0 tr1 tr2 tt0 tt1 tt2 vq0 vq2 f0 l2 l3
         unfold Oper.wp
         go_simp
         exact hK _ _ rfl hR (fun _ _ h => h)
        ·cases ho
         have e0 : a'.tmps.getD 91 undef = .pointer (some ⟨fb, fo + jf * 4, none⟩) := hdep 4 (by kernel_rfl)
         have e0' := gd_ e0
         clear mk0 mk1 mk2 mk3 mk4 mk5 rr0 rr1 rr2 rr3 u0 u1 u2 tr0 tr1 tr2 tt0 tt1 tt2 vq0 vq2 l2 l3
         unfold Oper.wp
         go_simp
         exact hK _ _ rfl hR (fun _ _ h => h)
        ·cases ho
         have e0 : a'.tmps.getD 11 undef = .pointer (some ⟨w1.heap.size, 0, none⟩) := hslot 11 (by decide)
         clear rr0 rr1 rr2 rr3 u0 u1 u2 tr0 tr1 tr2 tt0 tt1 tt2 vq0 vq2 f0 l2 l3
         unfold Oper.wp
         go_simp
         exact hK _ _ rfl hR (fun _ _ h => h)
        ·cases ho
         have e0 : a'.tmps.getD 16 undef = .pointer (some ⟨V, 0, none⟩) := hslot 16 (by decide)
         clear mk0 mk1 mk2 mk3 mk4 mk5 rr0 rr1 rr2 rr3 u0 u1 u2 tr0 tr1 tr2 tt0 tt1 tt2 vq0 vq2 f0 l2 l3
         unfold Oper.wp
         go_simp
         exact hK _ _ rfl hR (fun _ _ h => h)
        ·cases ho
         have e0 : a'.tmps.getD 94 undef = .pointer (some ⟨V, 0, none⟩) := hdep 7 (by kernel_rfl)
         have e0' := gd_ e0
         clear mk0 mk1 mk2 mk3 mk4 mk5 rr0 rr1 rr2 rr3 u0 u1 u2 tr0 tr1 tr2 tt0 tt1 tt2 vq2 f0 l2 l3
         unfold Oper.wp
         go_simp
         exact hK _ _ rfl hR (fun _ _ h => h)
        ·cases ho
         have e0 : a'.tmps.getD 95 undef = .string xn := hdep 8 (by kernel_rfl)
         have e0' := gd_ e0
         clear mk0 mk1 mk2 mk3 mk4 mk5 rr0 rr1 rr2 rr3 u0 u1 u2 tr0 tr1 tr2 tt0 tt1 tt2 vq0 vq2 f0 l2 l3
         unfold Oper.wp
         go_simp
         exact hK _ _ rfl hR (fun _ _ h => h)
        ·cases ho
         have e0 : a'.tmps.getD 8 undef = .pointer (some ⟨w.heap.size + 3, 0, none⟩) := hslot 8 (by decide)
         clear mk0 mk1 mk2 mk3 mk4 mk5 u0 u1 u2 tr0 tr1 tr2 tt0 tt1 tt2 vq0 vq2 f0 l2 l3
         unfold Oper.wp
         go_simp
         exact hK _ _ rfl hR (fun _ _ h => h)
        ·cases ho
         have e0 : a'.tmps.getD 97 undef = .agg #[.int .i64 d.op, .int .i64 d.n, .slice d.so d.sl d.sc, .slice d.lo d.ll d.lc] := hdep 10 (by kernel_rfl)
         have e0' := gd_ e0
         clear mk0 mk1 mk2 mk3 mk4 mk5 rr0 rr1 rr2 rr3 u0 u1 u2 tr0 tr1 tr2 tt0 tt1 tt2 vq0 vq2 f0 l2 l3
         unfold Oper.wp
         go_simp
         refine (CK 0 (by decide) w' hR).mono ?_
         rintro e w9 ⟨⟨r9, y9, rfl, h9⟩, b9⟩
         exact hK _ _ ⟨r9, y9, rfl, h9⟩ (hR.trans (b9.mono hR.size)) (SpM.up b9)
        ·cases ho
         have e0 : a'.tmps.getD 93 undef = .agg #[.slice (some ⟨kb, ko_, none⟩) s.ks.length kc, .slice ao s.ac.length acp, .string p, .string ac, .string r, .int .i64 dp] := hdep 6 (by kernel_rfl)
         have e0' := gd_ e0
         have e1 : a'.tmps.getD 96 undef = .agg #[.int .i64 4, .int .i64 0, .string xn] := hdep 9 (by kernel_rfl)
         have e1' := gd_ e1
         obtain ⟨r2, x2, e2, hx2⟩ : (rawP).p (a'.tmps.getD 98 undef) w' := hdep 11 (by kernel_rfl)
         have e2' := gd_ e2
         have Hhx2 := hide hx2
         clear hx2 mk0 mk1 mk2 mk3 mk4 mk5 rr0 rr1 rr2 rr3 u0 u1 u2 tr0 tr1 tr2 tt0 tt1 tt2 vq0 vq2 f0 l2 l3
         unfold Oper.wp
         go_simp
         refine (CO ⟨4, 0, xn⟩ hgx w' hR r2 x2 (unhide Hhx2)).mono ?_
         rintro e w9 ⟨q9, rfl, b9, y9, h9⟩
         exact hK _ _ ⟨q9, y9, rfl, h9.weak hR.size (Nat.le_refl _)⟩ (hR.trans (b9.mono hR.size)) (SpM.up b9)
        ·cases ho
         obtain ⟨q0, y0, e0, hy0⟩ : (treeP w7.heap.size s p r ⟨4, 0, xn⟩ n).p (a'.tmps.getD 99 undef) w' := hdep 12 (by kernel_rfl)
         have e0' := gd_ e0
         have Hhy0 := hide hy0
         clear hy0 mk0 mk1 mk2 mk3 mk4 mk5 rr0 rr1 rr2 rr3 u0 u1 u2 tr0 tr1 tr2 tt0 tt1 tt2 vq0 vq2 f0 l2 l3
         unfold Oper.wp
         go_simp
         exact hK _ _ ⟨w'.heap.size, [q0], [y0], _, rfl, hR.size, alloc_heap _ _, rfl, .cons ((unhide Hhy0).up (blw1 _ _)) .nil⟩ (hR.alloc hR.size _) (SpM.up (blw1 _ _))
        ·cases ho
         have e0 : a'.tmps.getD 92 undef = .string (ba fl) := hdep 5 (by kernel_rfl)
         have e0' := gd_ e0
         obtain ⟨b1, qs1, es1, cs1, e1, hB1, hb1, hc1, ha1⟩ : (rowP w7.heap.size s p r [⟨4, 0, xn⟩] n 1).p (a'.tmps.getD 100 undef) w' := hdep 13 (by kernel_rfl)
         have e1' := gd_ e1
         have HhB1 := hide hB1
         have Hhb1 := hide hb1
         have Hhc1 := hide hc1
         have Hha1 := hide ha1
         clear hB1 hb1 hc1 ha1 mk0 mk1 mk2 mk3 mk4 mk5 rr0 rr1 rr2 rr3 u0 u1 u2 tr0 tr1 tr2 tt0 tt1 tt2 vq0 vq2 f0 l2 l3
         unfold Oper.wp
         go_simp
         exact hK _ _ ⟨⟨7, false, 0, ba fl, ⟨#[]⟩, ⟨#[]⟩, some ⟨b1, 0, none⟩, 1, 1⟩, .mk 7 false 0 fl [] [] es1, rfl, made_node (sx := fl) (unhide Hhb1) (unhide Hhc1) (unhide HhB1) (unhide Hha1) rfl (by decide) (fun _ => rfl) (by simp) (unhide HT)⟩ hR (fun _ _ h => h)
       ·intro v w' hR hall
        have f0 : v 0 = .pointer (some ⟨V, 2, none⟩) := hall 0 (by decide)
        have f1 : v 1 = .slice (some ⟨fb, fo, none⟩) nf xbc := hall 1 (by decide)
        have f2 : v 2 = .int .i64 jf := hall 2 (by decide)
        have f3 : v 3 = .pointer (some ⟨fb, fo + jf * 4, none⟩) := hall 3 (by decide)
        have f4 : v 4 = .pointer (some ⟨fb, fo + jf * 4, none⟩) := hall 4 (by decide)
        have f5 : v 5 = .string (ba fl) := hall 5 (by decide)
        have f6 : v 6 = .agg #[.slice (some ⟨kb, ko_, none⟩) s.ks.length kc, .slice ao s.ac.length acp, .string p, .string ac, .string r, .int .i64 dp] := hall 6 (by decide)
        have f7 : v 7 = .pointer (some ⟨V, 0, none⟩) := hall 7 (by decide)
        have f8 : v 8 = .string xn := hall 8 (by decide)
        have f9 : v 9 = .agg #[.int .i64 4, .int .i64 0, .string xn] := hall 9 (by decide)
        have f10 : v 10 = .agg #[.int .i64 d.op, .int .i64 d.n, .slice d.so d.sl d.sc, .slice d.lo d.ll d.lc] := hall 10 (by decide)
        obtain ⟨qZ, yZ, eZ, hyZ⟩ : (treeP w7.heap.size s p r t (n + 1)).p (v 14) w' := hall 14 (by decide)
        have f14 : v 14 = .agg #[.int .i64 qZ.k, .bool qZ.b, .int .i64 qZ.n, .string qZ.s, .string qZ.t, .string qZ.i, .slice qZ.lo qZ.ll qZ.lc] := eZ
        clear eZ
        have HhyZ := hide hyZ
        clear hyZ
        clear hall
        simp only [putAll, dstOf, List.getElem?_cons_zero, List.getElem?_cons_succ, Option.bind_some, List.drop_succ_cons, List.drop_zero, f0, f1, f2, f3, f4, f5, f6, f7, f8, f9, f10, f14]
        clear f0 f1 f2 f3 f4 f5 f6 f7 f8 f9 f10 f14
        simp only [Act.put, List.setIfInBounds_toArray, List.set_cons_succ, List.set_cons_zero]
        generalize v 11 = vv11
        generalize v 12 = vv12
        generalize v 13 = vv13
        have hV := kept_of_below hR k5
        have b0 := bX.trans (hR.mono bX.size)
        obtain ⟨y0, y1, y2, y3, y4, y5, y6, yf⟩ := blk7 hV
        have HB := hide (And.intro b0 hVlt)
        clear hV b0 CK CO hg1 hg2  hgx
        go_wp2
        exact bodyPost_ret (v := .agg #[.int .i64 qZ.k, .bool qZ.b, .int .i64 qZ.n, .string qZ.s, .string qZ.t, .string qZ.i, .slice qZ.lo qZ.ll qZ.lc]) (by simp [results, Try.results45, go_sem, y0, y1, y2, y3, y4, y5, y6]) rfl (Or.inl ⟨qZ, rfl, set7S_below (unhide HB).1 (Nat.le_add_right _ 4) _ _ _ _ _ _ _, yZ, ((unhide HhyZ).keep (w' := set7S _ _ _ _ _ _ _ _ _) (by rw [set7S_size]; exact Nat.le_refl _) (fun b hB _ => set7S_heap _ _ _ _ _ _ _ _ _ _ (by have := (unhide HB).2; omega))).weak hw3 (Nat.le_refl _)⟩)
     ·have l3 : ¬ (jf : Int) < (nf : Int) := by omega
      go_wp2
      go_roundw
      case rel => exact ⟨i + 1, by go_num, by omega, b3q⟩
      case measure =>
       simp only [intOf]
       omega
  ·have i1 : ¬ (i : Int) < (s.ks.length : Int) := by omega
   obtain ⟨y0, y1, y2, y3, y4, y5, y6, yf⟩ := blk7 k5r
   have HB := hide bXr
   clear CK CO hg1 hg2
   go_wp2
   exact bodyPost_ret (v := .agg #[.int .i64 0, .bool false, .int .i64 0, .string ⟨#[]⟩, .string ⟨#[]⟩, .string ⟨#[]⟩, .slice none 0 0]) (by simp [results, Try.results45, go_sem, y0, y1, y2, y3, y4, y5, y6]) rfl (.inr ⟨⟨0, false, 0, ⟨#[]⟩, ⟨#[]⟩, ⟨#[]⟩, none, 0, 0⟩, rfl, set7S_below (unhide HB) (Nat.le_add_right _ 4) _ _ _ _ _ _ _, rfl⟩)
end Go.Proofs.Ytagnbpobcijakaa

namespace Go.Proofs.Ytagnbpobcijakaa
open Go.RowKit Go.Sort

theorem ltB_trans {a b c : ByteArray} (h1 : ltB a b = true) (h2 : ltB b c = true) : ltB a c = true := by
 unfold ltB at *
 rw [bytesLess_eq] at *
 exact decide_eq_true (bytes_trans (of_decide_eq_true h1) (of_decide_eq_true h2))
theorem ltB_irr (a : ByteArray) : ltB a a = false := by
 unfold ltB
 rw [bytesLess_eq]
 exact decide_eq_false (bytes_irr _)
theorem last_all {acc : List F4} (h : acc.Pairwise (fun a b => ltB a.nm b.nm = true)) {x : F4} (hx : okFl acc x = true) : ∀ a ∈ acc, ltB a.nm x.nm = true := by
 intro a ha
 rcases List.eq_nil_or_concat acc with h0 | ⟨l, p, h0⟩
 ·rw [h0] at ha
  cases ha
 ·subst h0
  have hp : ltB p.nm x.nm = true := by
   unfold okFl at hx
   simpa using hx
  rw [List.concat_eq_append] at h ha
  rcases List.mem_append.1 ha with hm | hm
  ·have := (List.pairwise_append.1 h).2.2 a hm p (by simp)
   exact ltB_trans this hp
  ·rw [List.mem_singleton] at hm
   rw [hm]
   exact hp
theorem fields_rise (l : List ByteArray) (kn : ByteArray) : ∀ (fs acc : List F4), acc.Pairwise (fun a b => ltB a.nm b.nm = true) → (fs.foldl (fldG l kn) acc).Pairwise (fun a b => ltB a.nm b.nm = true) := by
 intro fs
 induction fs with
 | nil => intro acc h; exact h
 | cons f t ih =>
  intro acc h
  rw [List.foldl_cons]
  refine ih _ ?_
  unfold fldG
  by_cases hx : okFl acc (typG l kn f) = true
  ·rw [if_pos hx, List.pairwise_append]
   refine ⟨h, by simp, fun a ha b hb => ?_⟩
   rw [List.mem_singleton] at hb
   rw [hb]
   exact last_all h hx a ha
  ·rw [if_neg hx]
   exact h
theorem fldT_found : ∀ (fs : List F4), fs.Pairwise (fun a b => ltB a.nm b.nm = true) → ∀ f ∈ fs, fldT fs f.nm = (⟨f.k, f.o, f.tn⟩, true)
 | [], _, f, hf => absurd hf List.not_mem_nil
 | g :: t, h, f, hf => by
  rw [List.pairwise_cons] at h
  rcases List.mem_cons.1 hf with e | e
  ·rw [e]
   unfold fldT
   rw [if_pos rfl]
  ·have hne : g.nm ≠ f.nm := fun e2 => by
    have := h.1 f e
    rw [e2, ltB_irr] at this
    cases this
   unfold fldT
   rw [if_neg hne]
   exact fldT_found t h.2 f e
theorem good_fields (X : SP) : ∀ k ∈ (goodS X).ks, k.fs.Pairwise (fun a b => ltB a.nm b.nm = true) := by
 intro k hk
 unfold goodS at hk
 obtain ⟨b, _, rfl⟩ := List.mem_map.1 hk
 exact fields_rise _ _ _ [] List.Pairwise.nil
theorem good_fsch {X : SP} (h : Tiny X) : FSch (goodS X) := by
 have hf := few_good h
 refine ⟨hf.ks, fun k hk => (hf.k k hk).2, fun k hk => ?_⟩
 obtain ⟨j, hj, e⟩ := List.getElem_of_mem hk
 have h1 := good_named X j hj
 have h2 := good_notAction X j hj
 have h3 := good_kOf X j hj
 rw [e] at h1 h2 h3
 refine ⟨⟨h1, h2⟩, fun f hm => ?_⟩
 unfold fieldT
 rw [h1, h3, fldT_found k.fs (good_fields X k hk) f hm]
 rfl
theorem good_ns (X : SP) : (goodS X).names = goodNs X.ks := by
 unfold goodS SP.names goodNs
 rw [List.map_map]
 rfl
theorem those_kn {X : SP} {l : List ByteArray} {n : ByteArray} (h : n ∈ thoseL (goodNs X.ks) l) : isKn (goodS X) n := by
 unfold thoseL at h
 have h1 := (List.mem_filter.1 h).2
 rw [← good_ns X] at h1
 have h2 : noneB (goodS X).names n = false := by simpa using h1
 refine ⟨h2, fun e => ?_⟩
 rw [e, good_noAction X] at h2
 cases h2
theorem env_kn {X : SP} {E : V3} (h : E ∈ allA (goodS X).ac) : isKn (goodS X) E.p ∧ isKn (goodS X) E.r := by
 unfold allA at h
 obtain ⟨a, ha, hE⟩ := List.mem_flatMap.1 h
 obtain ⟨b, _, rfl⟩ := goodA_mem _ _ _ a ha
 unfold allQ at hE
 obtain ⟨p, hp, hE⟩ := List.mem_flatMap.1 hE
 obtain ⟨r, hr, rfl⟩ := List.mem_map.1 hE
 exact ⟨those_kn hp, those_kn hr⟩
end Go.Proofs.Ytagnbpobcijakaa
