/-
 chancellaw11: build, maker.of, Make: what they return.
 A tree of which one kid is another one: as plain data, and in memory (no walk in it).
-/
import Derived.Test.YtagnbpobcijakaaTmDF
import Derived.Test.YtagnbpobcijakaaTmDA
import Derived.Test.YtagnbpobcijakaaTmDS
import Derived.Test.YtagnbpobcijakaaVeKN
namespace Go.Proofs.Ytagnbpobcijakaa
open Go.RowKit Go.Sort

theorem build11_any (s : SP) (ko ao : Option Addr) (kc acp : Nat) (p ac r : ByteArray) (dq dp : Int) (n : Nat) (d : R4) (x : Rw) (t : T3) (w : World) (hp : isKn s p) (hr : isKn s r) (hKs : IsKs w ko s.ks) (hfs : FSch s) (hdp : IntKind.i64.wrap (dq - 1) = dp) (hx : IsR w d x) (ht : GTy s t) (COF : ∀ (w' : World) (t : T3) (d : R4) (x : Rw), Below w.heap.size w w' → GTy s t → IsR w' d x → Calls Try.prog 14 #[.agg #[.slice ko s.ks.length kc, .slice ao s.ac.length acp, .string p, .string ac, .string r, .int .i64 dp], .agg #[.int .i64 t.k, .int .i64 t.o, .string t.n], .agg #[.int .i64 d.op, .int .i64 d.n, .slice d.so d.sl d.sc, .slice d.lo d.ll d.lc]] w' fun e w9 => MakesT s p r t n w' e w9) : Calls Try.prog 45 #[.agg #[.slice ko s.ks.length kc, .slice ao s.ac.length acp], .agg #[.string p, .string ac, .string r], .agg #[.int .i64 t.k, .int .i64 t.o, .string t.n], .agg #[.int .i64 d.op, .int .i64 d.n, .slice d.so d.sl d.sc, .slice d.lo d.ll d.lc], .int .i64 dq] w fun e w' => MakesT s p r t (n + 1) w e w' ∨ ZeroT w e w' := by
 by_cases h0 : d.op % 12 = 0
 ·exact (build11_0 s ko ao kc acp p ac r dq dp n d x t h0 w hdp hx ht COF).mono fun _ _ h => .inl h
 by_cases h3 : d.op % 12 ≤ 3
 ·exact build11_f s ko ao kc acp p ac r dq dp n d x t hfs (by omega) w hKs hdp hx COF
 have h4 : 4 ≤ d.op % 12 := by omega
 obtain ⟨tk, to_, tn⟩ := t
 rcases ht with ⟨h1 | h1 | h1, h2, h3⟩ | ⟨h1, h2, h3⟩ | ⟨h1, h2⟩
 ·simp only at h1 h2 h3
  subst h1 h2 h3
  exact (build11_truth s ko ao kc acp p ac r dq dp n d x hp hr h4 w hdp hx COF).mono fun _ _ h => .inl h
 ·simp only at h1 h2 h3
  subst h1 h2 h3
  by_cases h8 : d.op % 12 ≤ 8
  ·have hc : d.n % 3 = 0 ∨ d.n % 3 = 1 ∨ d.n % 3 = 2 := by omega
   rcases hc with h | h | h
   ·exact (build11_l s ko ao kc acp p ac r dq dp n d x ⟨h4, h8⟩ 0 14 h (by decide) rfl ⟨by decide, by decide⟩ rfl w hdp hx COF).mono fun _ _ h => .inl h
   ·exact (build11_l s ko ao kc acp p ac r dq dp n d x ⟨h4, h8⟩ 1 15 h (by decide) rfl ⟨by decide, by decide⟩ rfl w hdp hx COF).mono fun _ _ h => .inl h
   ·exact (build11_l s ko ao kc acp p ac r dq dp n d x ⟨h4, h8⟩ 2 13 h (by decide) rfl ⟨by decide, by decide⟩ rfl w hdp hx COF).mono fun _ _ h => .inl h
  by_cases h9 : d.op % 12 = 9
  ·exact (build11_neg s ko ao kc acp p ac r dq dp n d x h9 w hdp hx COF).mono fun _ _ h => .inl h
  ·exact (build11_zb s ko ao kc acp p ac r dq dp n d x (by omega) w hdp hx COF).mono fun _ _ h => .inr h
 ·simp only at h1 h2 h3
  subst h1 h2 h3
  exact (build11_za s ko ao kc acp p ac r dq dp n d x ⟨3, 0, _⟩ h4 rfl rfl rfl w hdp hx COF).mono fun _ _ h => .inr h
 ·simp only at h1 h2 h3
  subst h1 h2
  exact (build11_za s ko ao kc acp p ac r dq dp n d x ⟨4, 0, tn⟩ h4 rfl rfl rfl w hdp hx COF).mono fun _ _ h => .inr h
 ·simp only at h1
  subst h1
  obtain ⟨he, ho, _⟩ := elem_gt (s := s) (t := ⟨5, to_, tn⟩) (.inr (.inr ⟨rfl, h2⟩)) rfl
  exact (build11_set s ko ao kc acp p ac r dq dp n d x to_ tn ho he h4 w hdp hx COF).mono fun _ _ h => .inl h
set_option maxHeartbeats 8000000 in
set_option maxRecDepth 1000000 in
theorem mof11_any (s : SP) (ko ao : Option Addr) (kc acp : Nat) (p ac r : ByteArray) (dp : Int) (n : Nat) (d : R4) (t : T3) (w : World) 
  (CM : ∀ w', Below w.heap.size w w' → Calls Try.prog 31 #[.agg #[.slice ko s.ks.length kc, .slice ao s.ac.length acp], .agg #[.string p, .string ac, .string r], .agg #[.int .i64 t.k, .int .i64 t.o, .string t.n], .agg #[.int .i64 d.op, .int .i64 d.n, .slice d.so d.sl d.sc, .slice d.lo d.ll d.lc], .int .i64 dp] w' fun e w9 => MakesT s p r t n w' e w9) :
  Calls Try.prog 14 #[.agg #[.slice ko s.ks.length kc, .slice ao s.ac.length acp, .string p, .string ac, .string r, .int .i64 dp], .agg #[.int .i64 t.k, .int .i64 t.o, .string t.n], .agg #[.int .i64 d.op, .int .i64 d.n, .slice d.so d.sl d.sc, .slice d.lo d.ll d.lc]] w fun e w' => MakesT s p r t n w e w' := by
 obtain ⟨bX, zX, k1, k2, k3, k4⟩ := alloc4 w (.cells #[.slice ko s.ks.length kc, .slice ao s.ac.length acp, .string p, .string ac, .string r, .int .i64 dp] 52) (.cells #[.int .i64 t.k, .int .i64 t.o, .string t.n] 54) (.cells #[.int .i64 d.op, .int .i64 d.n, .slice d.so d.sl d.sc, .slice d.lo d.ll d.lc] 49) (.cells #[.int .i64 0, .bool false, .int .i64 0, .string ⟨#[]⟩, .string ⟨#[]⟩, .string ⟨#[]⟩, .slice none 0 0] 39)
 go_enter Try.func14, Try.ntmps14
 go_upto_region 1 with fail
 generalize (((w.alloc _).alloc _).alloc _).alloc _ = w1 at *
 clear zX
 obtain ⟨mk0, mk1, mk2, mk3, mk4, mk5⟩ := bl6_ k1
 obtain ⟨tt0, tt1, tt2⟩ := bl3_ k2
 obtain ⟨rr0, rr1, rr2, rr3⟩ := bl4_ k3
 have CM := CM w1 bX
 have hVlt : w.heap.size + 3 < w1.heap.size := (Array.getElem?_eq_some_iff.1 k4).1
 have hw1 : w.heap.size ≤ w1.heap.size := bX.size
 go_wp2_with fail
 refine CM.mono ?_
 clear CM mk0 mk1 mk2 mk3 mk4 mk5 tt0 tt1 tt2 rr0 rr1 rr2 rr3
 rintro e9 w5 ⟨q, rfl, b5, y, hy⟩
 have hV := kept_of_below b5 k4
 have b0 := bX.trans (b5.mono bX.size)
 obtain ⟨y0, y1, y2, y3, y4, y5, y6, yf⟩ := blk7 hV
 have HB := hide b0
 have Hy := hide (And.intro hy (And.intro hVlt (And.intro hw1 (Nat.le_refl n))))
 clear hV b0 hy
 go_wp2
 exact bodyPost_ret (v := .agg #[.int .i64 q.k, .bool q.b, .int .i64 q.n, .string q.s, .string q.t, .string q.i, .slice q.lo q.ll q.lc]) (by simp [results, Try.results14, go_sem, y0, y1, y2, y3, y4, y5, y6]) rfl ⟨q, rfl, set7S_below (unhide HB) (Nat.le_add_right _ 3) _ _ _ _ _ _ _, y, ((unhide Hy).1.keep (w' := set7S _ _ _ _ _ _ _ _ _) (by rw [set7S_size]; exact Nat.le_refl _) (fun b hB _ => set7S_heap _ _ _ _ _ _ _ _ _ _ (by have := (unhide Hy).2.1; omega))).weak (unhide Hy).2.2.1 (unhide Hy).2.2.2⟩
set_option maxHeartbeats 8000000 in
set_option maxRecDepth 1000000 in
theorem make11_any (s : SP) (ko ao : Option Addr) (kc acp : Nat) (p ac r : ByteArray) (hp : isKn s p) (hr : isKn s r) (hfs : FSch s) : ∀ (kk : Nat), kk ≤ 100 → ∀ (t : T3) (d : R4) (x : Rw) (w : World), IsKs w ko s.ks → IsR w d x → GTy s t → Calls Try.prog 31 #[.agg #[.slice ko s.ks.length kc, .slice ao s.ac.length acp], .agg #[.string p, .string ac, .string r], .agg #[.int .i64 t.k, .int .i64 t.o, .string t.n], .agg #[.int .i64 d.op, .int .i64 d.n, .slice d.so d.sl d.sc, .slice d.lo d.ll d.lc], .int .i64 (kk : Nat)] w fun e w' => MakesT s p r t (kk + 2) w e w' := by
 intro kk
 induction kk with
 | zero =>
  intro _ t d x w hKs hx ht
  have CP := fun w' (hb : Below w.heap.size w w') => plain11_any s ko ao kc acp p ac r d x t w' ht (IsR.below hb d x hx)
  clear hKs hx ht
  obtain ⟨kk, hkk⟩ : ∃ kk : Nat, kk = 0 := ⟨_, rfl⟩
  rw [← hkk]
  have hk1 : (kk : Int) ≤ 1 := by omega
  clear hkk
  obtain ⟨bX, zX, k1, k2, k3, k4, k5⟩ := alloc5 w (.cells #[.slice ko s.ks.length kc, .slice ao s.ac.length acp] 33) (.cells #[.string p, .string ac, .string r] 42) (.cells #[.int .i64 t.k, .int .i64 t.o, .string t.n] 54) (.cells #[.int .i64 d.op, .int .i64 d.n, .slice d.so d.sl d.sc, .slice d.lo d.ll d.lc] 49) (.cells #[.int .i64 0, .bool false, .int .i64 0, .string ⟨#[]⟩, .string ⟨#[]⟩, .string ⟨#[]⟩, .slice none 0 0] 39)
  go_enter Try.func31, Try.ntmps31
  go_upto_region 1 with fail
  generalize ((((w.alloc _).alloc _).alloc _).alloc _).alloc _ = w1 at *
  clear zX
  obtain ⟨cs0, cs1⟩ := bl2_ k1
  obtain ⟨cn0, cn1, cn2⟩ := bl3_ k2
  obtain ⟨ct0, ct1, ct2⟩ := bl3_ k3
  obtain ⟨cr0, cr1, cr2, cr3⟩ := bl4_ k4
  have CP := CP w1 bX
  have hVlt : w.heap.size + 4 < w1.heap.size := (Array.getElem?_eq_some_iff.1 k5).1
  have hw1 : w.heap.size ≤ w1.heap.size := bX.size
  go_wp2_with fail
  refine CP.mono ?_
  clear CP
  clear cs0 cs1 cn0 cn1 cn2 ct0 ct1 ct2 cr0 cr1 cr2 cr3
  rintro e9 w5 ⟨q, rfl, b5, y, hy⟩
  have hV := kept_of_below b5 k5
  have b0 := bX.trans (b5.mono bX.size)
  obtain ⟨y0, y1, y2, y3, y4, y5, y6, yf⟩ := blk7 hV
  have HB := hide b0
  have Hy := hide (And.intro hy (And.intro hVlt (And.intro hw1 (show 2 ≤ kk + 2 by omega))))
  clear hV b0 hy
  go_wp2
  exact bodyPost_ret (v := .agg #[.int .i64 q.k, .bool q.b, .int .i64 q.n, .string q.s, .string q.t, .string q.i, .slice q.lo q.ll q.lc]) (by simp [results, Try.results31, go_sem, y0, y1, y2, y3, y4, y5, y6]) rfl ⟨q, rfl, set7S_below (unhide HB) (Nat.le_add_right _ 4) _ _ _ _ _ _ _, y, ((unhide Hy).1.keep (w' := set7S _ _ _ _ _ _ _ _ _) (by rw [set7S_size]; exact Nat.le_refl _) (fun b hB _ => set7S_heap _ _ _ _ _ _ _ _ _ _ (by have := (unhide Hy).2.1; omega))).weak (unhide Hy).2.2.1 (unhide Hy).2.2.2⟩
 | succ k ih =>
  intro hk t d x w hKs hx ht
  have CP := fun w' (hb : Below w.heap.size w w') => plain11_any s ko ao kc acp p ac r d x t w' ht (IsR.below hb d x hx)
  have hdp : IntKind.i64.wrap (((k + 1 : Nat) : Int) - 1) = (k : Int) := by rw [IntKind.wrap_i64]; omega
  have CBd := fun w' (hb : Below w.heap.size w w') => build11_any s ko ao kc acp p ac r ((k + 1 : Nat) : Int) (k : Int) (k + 2) d x t w' hp hr (hKs.below hb) hfs hdp (IsR.below hb d x hx) ht (fun w9 t9 d9 x9 hb9 ht9 hx9 => mof11_any s ko ao kc acp p ac r (k : Int) (k + 2) d9 t9 w9 (fun w8 hb8 => ih (by omega) t9 d9 x9 w8 ((hKs.below hb).below (hb9.trans (hb8.mono hb9.size))) (IsR.below hb8 d9 x9 hx9) ht9))
  clear hdp ih hKs hx ht
  obtain ⟨kk, hkk⟩ : ∃ kk : Nat, kk = k + 1 := ⟨_, rfl⟩
  have hn : k + 2 + 1 = kk + 2 := by omega
  rw [hn] at CBd
  rw [← hkk] at CBd
  rw [← hkk]
  by_cases hk1 : (kk : Int) ≤ 1
  ·clear hkk hn CBd
   obtain ⟨bX, zX, k1, k2, k3, k4, k5⟩ := alloc5 w (.cells #[.slice ko s.ks.length kc, .slice ao s.ac.length acp] 33) (.cells #[.string p, .string ac, .string r] 42) (.cells #[.int .i64 t.k, .int .i64 t.o, .string t.n] 54) (.cells #[.int .i64 d.op, .int .i64 d.n, .slice d.so d.sl d.sc, .slice d.lo d.ll d.lc] 49) (.cells #[.int .i64 0, .bool false, .int .i64 0, .string ⟨#[]⟩, .string ⟨#[]⟩, .string ⟨#[]⟩, .slice none 0 0] 39)
   go_enter Try.func31, Try.ntmps31
   go_upto_region 1 with fail
   generalize ((((w.alloc _).alloc _).alloc _).alloc _).alloc _ = w1 at *
   clear zX
   obtain ⟨cs0, cs1⟩ := bl2_ k1
   obtain ⟨cn0, cn1, cn2⟩ := bl3_ k2
   obtain ⟨ct0, ct1, ct2⟩ := bl3_ k3
   obtain ⟨cr0, cr1, cr2, cr3⟩ := bl4_ k4
   have CP := CP w1 bX
   have hVlt : w.heap.size + 4 < w1.heap.size := (Array.getElem?_eq_some_iff.1 k5).1
   have hw1 : w.heap.size ≤ w1.heap.size := bX.size
   go_wp2_with fail
   refine CP.mono ?_
   clear CP
   clear cs0 cs1 cn0 cn1 cn2 ct0 ct1 ct2 cr0 cr1 cr2 cr3
   rintro e9 w5 ⟨q, rfl, b5, y, hy⟩
   have hV := kept_of_below b5 k5
   have b0 := bX.trans (b5.mono bX.size)
   obtain ⟨y0, y1, y2, y3, y4, y5, y6, yf⟩ := blk7 hV
   have HB := hide b0
   have Hy := hide (And.intro hy (And.intro hVlt (And.intro hw1 (show 2 ≤ kk + 2 by omega))))
   clear hV b0 hy
   go_wp2
   exact bodyPost_ret (v := .agg #[.int .i64 q.k, .bool q.b, .int .i64 q.n, .string q.s, .string q.t, .string q.i, .slice q.lo q.ll q.lc]) (by simp [results, Try.results31, go_sem, y0, y1, y2, y3, y4, y5, y6]) rfl ⟨q, rfl, set7S_below (unhide HB) (Nat.le_add_right _ 4) _ _ _ _ _ _ _, y, ((unhide Hy).1.keep (w' := set7S _ _ _ _ _ _ _ _ _) (by rw [set7S_size]; exact Nat.le_refl _) (fun b hB _ => set7S_heap _ _ _ _ _ _ _ _ _ _ (by have := (unhide Hy).2.1; omega))).weak (unhide Hy).2.2.1 (unhide Hy).2.2.2⟩
  ·clear hkk hn
   obtain ⟨bX, zX, k1, k2, k3, k4, k5⟩ := alloc5 w (.cells #[.slice ko s.ks.length kc, .slice ao s.ac.length acp] 33) (.cells #[.string p, .string ac, .string r] 42) (.cells #[.int .i64 t.k, .int .i64 t.o, .string t.n] 54) (.cells #[.int .i64 d.op, .int .i64 d.n, .slice d.so d.sl d.sc, .slice d.lo d.ll d.lc] 49) (.cells #[.int .i64 0, .bool false, .int .i64 0, .string ⟨#[]⟩, .string ⟨#[]⟩, .string ⟨#[]⟩, .slice none 0 0] 39)
   go_enter Try.func31, Try.ntmps31
   go_upto_region 1 with fail
   generalize ((((w.alloc _).alloc _).alloc _).alloc _).alloc _ = w1 at *
   clear zX
   obtain ⟨cs0, cs1⟩ := bl2_ k1
   obtain ⟨cn0, cn1, cn2⟩ := bl3_ k2
   obtain ⟨ct0, ct1, ct2⟩ := bl3_ k3
   obtain ⟨cr0, cr1, cr2, cr3⟩ := bl4_ k4
   have CBd := CBd w1 bX
   have hVlt : w.heap.size + 4 < w1.heap.size := (Array.getElem?_eq_some_iff.1 k5).1
   have hw1 : w.heap.size ≤ w1.heap.size := bX.size
   go_wp2_with fail
   refine CBd.mono ?_
   clear CBd
   clear cs0 cs1 cn0 cn1 cn2 ct0 ct1 ct2 cr0 cr1 cr2 cr3
   intro e9 w5 h9
   have h9' : ∃ q : R7, e9 = .returned (.agg #[.int .i64 q.k, .bool q.b, .int .i64 q.n, .string q.s, .string q.t, .string q.i, .slice q.lo q.ll q.lc]) ∧ Below w1.heap.size w1 w5 ∧ ((∃ y, MadeE w1.heap.size s p r t (kk + 2) w5 q y) ∨ q.k = 0) := by
    rcases h9 with ⟨q, e, hb, h⟩ | ⟨q, e, hb, h⟩
    ·exact ⟨q, e, hb, .inl h⟩
    ·exact ⟨q, e, hb, .inr h⟩
   clear h9
   obtain ⟨q, rfl, b5, hq⟩ := h9'
   have b6 := blw1 w5 (.cells #[.int .i64 q.k, .bool q.b, .int .i64 q.n, .string q.s, .string q.t, .string q.i, .slice q.lo q.ll q.lc] 39)
   have h6 := alloc_heap w5 (.cells #[.int .i64 q.k, .bool q.b, .int .i64 q.n, .string q.s, .string q.t, .string q.i, .slice q.lo q.ll q.lc] 39)
   have B6 := b5.trans (b6.mono b5.size)
   have bX6 := bX.trans (B6.mono bX.size)
   have k1d := kept_of_below B6 k1
   have k2d := kept_of_below B6 k2
   have k3d := kept_of_below B6 k3
   have k4d := kept_of_below B6 k4
   have k5d := kept_of_below B6 k5
   go_upto_region 4 with fail
   generalize w5.alloc _ = w6 at *
   obtain ⟨xq0, xq1, xq2, xq3, xq4, xq5, xq6⟩ := bl7_ h6
   by_cases hz : q.k = 0
   ·have gz : (q.k == 0) = true := by simpa using hz
    have gz2 : (q.k != 0) = false := by simp [hz]
    clear hz hq
    have CP := CP w6 bX6
    obtain ⟨cs0, cs1⟩ := bl2_ k1d
    obtain ⟨cn0, cn1, cn2⟩ := bl3_ k2d
    obtain ⟨ct0, ct1, ct2⟩ := bl3_ k3d
    obtain ⟨cr0, cr1, cr2, cr3⟩ := bl4_ k4d
    go_wp2_with fail
    refine CP.mono ?_
    clear CP gz gz2 xq0 xq1 xq2 xq3 xq4 xq5 xq6
    clear cs0 cs1 cn0 cn1 cn2 ct0 ct1 ct2 cr0 cr1 cr2 cr3
    rintro e9 w7 ⟨q', rfl, b7, y, hy⟩
    have hV := kept_of_below b7 k5d
    have b0 := bX6.trans (b7.mono bX6.size)
    have hV6 : w.heap.size + 4 < w6.heap.size := (Array.getElem?_eq_some_iff.1 k5d).1
    have hw6 : w.heap.size ≤ w6.heap.size := bX6.size
    obtain ⟨y0, y1, y2, y3, y4, y5, y6, yf⟩ := blk7 hV
    have HB := hide b0
    have Hy := hide (And.intro hy (And.intro hV6 (And.intro hw6 (show 2 ≤ kk + 2 by omega))))
    clear hV b0 hy hV6 hw6
    go_wp2
    exact bodyPost_ret (v := .agg #[.int .i64 q'.k, .bool q'.b, .int .i64 q'.n, .string q'.s, .string q'.t, .string q'.i, .slice q'.lo q'.ll q'.lc]) (by simp [results, Try.results31, go_sem, y0, y1, y2, y3, y4, y5, y6]) rfl ⟨q', rfl, set7S_below (unhide HB) (Nat.le_add_right _ 4) _ _ _ _ _ _ _, y, ((unhide Hy).1.keep (w' := set7S _ _ _ _ _ _ _ _ _) (by rw [set7S_size]; exact Nat.le_refl _) (fun b hB _ => set7S_heap _ _ _ _ _ _ _ _ _ _ (by have := (unhide Hy).2.1; omega))).weak (unhide Hy).2.2.1 (unhide Hy).2.2.2⟩
   ·have gz : (q.k == 0) = false := by simpa using hz
    have gz2 : (q.k != 0) = true := by simpa using hz
    obtain ⟨y, hy⟩ := hq.resolve_right hz
    have hy6 := hy.up b6
    clear hz hq hy CP
    obtain ⟨y0, y1, y2, y3, y4, y5, y6, yf⟩ := blk7 k5d
    have HB := hide bX6
    have Hy := hide (And.intro hy6 (And.intro hVlt (And.intro hw1 (Nat.le_refl (kk + 2)))))
    clear hy6
    go_wp2
    exact bodyPost_ret (v := .agg #[.int .i64 q.k, .bool q.b, .int .i64 q.n, .string q.s, .string q.t, .string q.i, .slice q.lo q.ll q.lc]) (by simp [results, Try.results31, go_sem, y0, y1, y2, y3, y4, y5, y6]) rfl ⟨q, rfl, set7S_below (unhide HB) (Nat.le_add_right _ 4) _ _ _ _ _ _ _, y, ((unhide Hy).1.keep (w' := set7S _ _ _ _ _ _ _ _ _) (by rw [set7S_size]; exact Nat.le_refl _) (fun b hB _ => set7S_heap _ _ _ _ _ _ _ _ _ _ (by have := (unhide Hy).2.1; omega))).weak (unhide Hy).2.2.1 (unhide Hy).2.2.2⟩
end Go.Proofs.Ytagnbpobcijakaa

namespace Go.Proofs.Ytagnbpobcijakaa
open Go.RowKit Go.Sort

theorem put_getN (a : Act) (d s : Nat) (v : Value) : (a.put (some d) v).tmps.getD s undef = a.tmps.getD s undef ∨ (s = d ∧ (a.put (some d) v).tmps.getD s undef = v) := by
 by_cases h : d = s
 ·subst h
  by_cases hs : d < a.tmps.size
  ·exact .inr ⟨rfl, put_same a d v hs⟩
  ·left
   simp [Act.put, hs]
 ·exact .inl (put_other a d s v h)

/-- Two slots that hold blocks of their own. -/
structure TwoN (s t : Nat) (w0 : World) (a : Act) (w : World) : Prop where
 below : Below w0.heap.size w0 w
 one : ∀ b, a.tmps.getD s undef = .pointer (some ⟨b, 0, none⟩) → b < w.heap.size
 two : ∀ b, a.tmps.getD t undef = .pointer (some ⟨b, 0, none⟩) → b < w.heap.size
 ne : ∀ b c, a.tmps.getD s undef = .pointer (some ⟨b, 0, none⟩) → a.tmps.getD t undef = .pointer (some ⟨c, 0, none⟩) → b ≠ c

theorem TwoN.other {s t : Nat} {w0 : World} {a : Act} {w w' : World} (h : TwoN s t w0 a w) (hb : Below w.heap.size w w') (d : Nat) (v : Value) (h1 : d ≠ s) (h2 : d ≠ t) : TwoN s t w0 (a.put (some d) v) w' := by
 have z := hb.size
 refine ⟨h.below.trans (hb.mono h.below.size), fun b hb => ?_, fun b hb => ?_, fun b c hb hc => ?_⟩
 ·rw [put_other _ _ _ _ h1] at hb
  have := h.one b hb
  omega
 ·rw [put_other _ _ _ _ h2] at hb
  have := h.two b hb
  omega
 ·rw [put_other _ _ _ _ h1] at hb
  rw [put_other _ _ _ _ h2] at hc
  exact h.ne b c hb hc

theorem TwoN.first {s t : Nat} {w0 : World} {a : Act} {w : World} (h : TwoN s t w0 a w) (hst : s ≠ t) (o : Obj) : TwoN s t w0 (a.put (some s) (.pointer (some ⟨w.heap.size, 0, none⟩))) (w.alloc o) := by
 have z := (show (w.alloc o).heap.size = w.heap.size + 1 by simp)
 refine ⟨h.below.alloc h.below.size _, fun b hb => ?_, fun b hb => ?_, fun b c hb hc => ?_⟩
 ·rcases put_getN a s s (.pointer (some ⟨w.heap.size, 0, none⟩)) with e | ⟨_, e⟩
  ·rw [e] at hb
   have := h.one b hb
   omega
  ·rw [e] at hb
   injection hb with hb
   injection hb with hb
   injection hb with hb
   omega
 ·rw [put_other _ _ _ _ hst] at hb
  have := h.two b hb
  omega
 ·rw [put_other _ _ _ _ hst] at hc
  rcases put_getN a s s (.pointer (some ⟨w.heap.size, 0, none⟩)) with e | ⟨_, e⟩
  ·rw [e] at hb
   exact h.ne b c hb hc
  ·rw [e] at hb
   injection hb with hb
   injection hb with hb
   injection hb with hb
   have := h.two c hc
   omega

theorem TwoN.second {s t : Nat} {w0 : World} {a : Act} {w : World} (h : TwoN s t w0 a w) (hst : s ≠ t) (o : Obj) : TwoN s t w0 (a.put (some t) (.pointer (some ⟨w.heap.size, 0, none⟩))) (w.alloc o) := by
 have z := (show (w.alloc o).heap.size = w.heap.size + 1 by simp)
 refine ⟨h.below.alloc h.below.size _, fun b hb => ?_, fun b hb => ?_, fun b c hb hc => ?_⟩
 ·rw [put_other _ _ _ _ (Ne.symm hst)] at hb
  have := h.one b hb
  omega
 ·rcases put_getN a t t (.pointer (some ⟨w.heap.size, 0, none⟩)) with e | ⟨_, e⟩
  ·rw [e] at hb
   have := h.two b hb
   omega
  ·rw [e] at hb
   injection hb with hb
   injection hb with hb
   injection hb with hb
   omega
 ·rw [put_other _ _ _ _ (Ne.symm hst)] at hb
  rcases put_getN a t t (.pointer (some ⟨w.heap.size, 0, none⟩)) with e | ⟨_, e⟩
  ·rw [e] at hc
   exact h.ne b c hb hc
  ·rw [e] at hc
   injection hc with hc
   injection hc with hc
   injection hc with hc
   have := h.one b hb
   omega

def z7o : Obj := .cells #[.int .i64 0, .bool false, .int .i64 0, .string ⟨#[]⟩, .string ⟨#[]⟩, .string ⟨#[]⟩, .slice none 0 0] 39 (0, 0)
mutual
/-- No kids of a tree lie in a block that is all nought. -/
theorem IsE.notz {w : World} {P : Nat → Prop} : ∀ (q : R7) (e : Ex), okT e → IsE w P q e → IsE w (fun b => P b ∧ w.heap[b]? ≠ some z7o) q e
 | q, .mk k b n s t i l, ho, h => by
  unfold okT at ho
  unfold IsE at h ⊢
  obtain ⟨h1, h2, h3, h4, h5, h6, h7, h8⟩ := h
  exact ⟨h1, h2, h3, h4, h5, h6, h7, IsEs.notz q.lo 0 l ho.2.2.2 h8⟩
theorem IsEs.notz {w : World} {P : Nat → Prop} : ∀ (lo : Option Addr) (j : Nat) (l : List Ex), okTs l → IsEs w P lo j l → IsEs w (fun b => P b ∧ w.heap[b]? ≠ some z7o) lo j l
 | _, _, [], _, _ => by unfold IsEs; trivial
 | lo, j, e :: l, ho, h => by
  unfold okTs at ho
  unfold IsEs at h ⊢
  obtain ⟨⟨r, b, off, h1, h2, h3, h4, h5⟩, h6⟩ := h
  refine ⟨⟨r, b, off, h1, ⟨h2, fun hz => ?_⟩, h3, h4, IsE.notz r e ho.1 h5⟩, IsEs.notz lo (j + 1) l ho.2 h6⟩
  have hr : 1 ≤ r.k := by
   have ho1 := ho.1
   obtain ⟨k, b, n, s, t, i, l⟩ := e
   unfold okT at ho1
   unfold IsE at h5
   rw [h5.1]
   exact ho1.1.1
  have c0 := h4.c0
  have c6 := h4.c6
  unfold z7o at hz
  rw [Lib.cell_of_heap hz] at c0 c6
  have hlt := (Array.getElem?_eq_some_iff.1 c6).1
  have h0 : off + j * 7 = 0 := by
   simp at hlt
   omega
  rw [h0] at c0
  simp at c0
  omega
end
theorem kids_row {w : World} {P : Nat → Prop} {lo : Option Addr} (l : List Ex) (hl : 0 < l.length) (h : IsEs w P lo 0 l) : ∃ (qs : List R7) (b off : Nat), lo = some ⟨b, off, none⟩ ∧ b < w.heap.size ∧ qs.length = l.length ∧ (∀ i (hi : i < qs.length), At7 w b (off + i * 7) qs[i]) ∧ ∀ i (hi : i < qs.length) (hi' : i < l.length), IsE w P qs[i] l[i] := by
 obtain ⟨r0, b, off, rfl, hb, _, _⟩ := IsEs.get l 0 0 hl h
 have HH : ∀ i : Fin l.length, ∃ r : R7, At7 w b (off + i.1 * 7) r ∧ IsE w P r (l[i.1]'i.2) := fun i => by
  obtain ⟨r, b', off', e, _, h1, h2⟩ := IsEs.get l 0 i.1 i.2 h
  cases e
  rw [Nat.zero_add] at h1
  exact ⟨r, h1, h2⟩
 obtain ⟨f, hf⟩ := Classical.axiomOfChoice HH
 refine ⟨List.ofFn f, b, off, rfl, hb, by simp, fun i hi => ?_, fun i hi hi' => ?_⟩
 ·rw [List.getElem_ofFn]
  exact (hf ⟨i, by simpa using hi⟩).1
 ·rw [List.getElem_ofFn]
  exact (hf ⟨i, hi'⟩).2
theorem isEs_list {w : World} {P : Nat → Prop} {g : Nat} (hP : P g) (hg : g < w.heap.size) : ∀ (qs : List R7) (xs : List Ex) (j : Nat), qs.length = xs.length → (∀ i (hi : i < qs.length), At7 w g ((j + i) * 7) qs[i]) → (∀ i (hi : i < qs.length) (hi' : i < xs.length), IsE w P qs[i] xs[i]) → IsEs w P (some ⟨g, 0, none⟩) j xs
 | [], [], _, _, _, _ => by unfold IsEs; trivial
 | [], _ :: _, _, h, _, _ => by simp at h
 | _ :: _, [], _, h, _, _ => by simp at h
 | q :: qs, x :: xs, j, h, ha, hx => by
  unfold IsEs
  have h0 := ha 0 (by simp)
  have x0 := hx 0 (by simp) (by simp)
  refine ⟨⟨q, g, 0, rfl, hP, hg, by simpa using h0, x0⟩, isEs_list hP hg qs xs (j + 1) (by simpa using h) (fun i hi => ?_) (fun i hi hi' => ?_)⟩
  ·have := ha (i + 1) (by simpa using hi)
   rw [show j + 1 + i = j + (i + 1) by omega]
   simpa using this
  ·exact hx (i + 1) (by simpa using hi) (by simpa using hi')
def set7G (w : World) (g o : Nat) (v0 v1 v2 v3 v4 v5 v6 : Value) : World := (((((((w.setCell ⟨g, o, none⟩ v0).setCell ⟨g, o + 1, none⟩ v1).setCell ⟨g, o + 2, none⟩ v2).setCell ⟨g, o + 3, none⟩ v3).setCell ⟨g, o + 4, none⟩ v4).setCell ⟨g, o + 5, none⟩ v5).setCell ⟨g, o + 6, none⟩ v6)
theorem set7G_heap {w : World} {g o : Nat} {cur : Array Value} {T : TypeId} (v0 v1 v2 v3 v4 v5 v6 : Value) (h : w.heap[g]? = some (.cells cur T (0, 0))) : (set7G w g o v0 v1 v2 v3 v4 v5 v6).heap[g]? = some (.cells (((((((cur.setIfInBounds (o) v0).setIfInBounds (o + 1) v1).setIfInBounds (o + 2) v2).setIfInBounds (o + 3) v3).setIfInBounds (o + 4) v4).setIfInBounds (o + 5) v5).setIfInBounds (o + 6) v6) T (0, 0)) := (heap_setCell_same _ g (o + 6) _ _ v6 (heap_setCell_same _ g (o + 5) _ _ v5 (heap_setCell_same _ g (o + 4) _ _ v4 (heap_setCell_same _ g (o + 3) _ _ v3 (heap_setCell_same _ g (o + 2) _ _ v2 (heap_setCell_same _ g (o + 1) _ _ v1 (heap_setCell_same _ g (o) _ _ v0 h)))))))
theorem set7G_other (w : World) (g o k : Nat) (v0 v1 v2 v3 v4 v5 v6 : Value) (h : k ≠ g) : (set7G w g o v0 v1 v2 v3 v4 v5 v6).heap[k]? = w.heap[k]? := by
 unfold set7G
 rw [Below.heap_setCell _ _ _ _ h, Below.heap_setCell _ _ _ _ h, Below.heap_setCell _ _ _ _ h, Below.heap_setCell _ _ _ _ h, Below.heap_setCell _ _ _ _ h, Below.heap_setCell _ _ _ _ h, Below.heap_setCell _ _ _ _ h]
theorem set7G_size (w : World) (g o : Nat) (v0 v1 v2 v3 v4 v5 v6 : Value) : (set7G w g o v0 v1 v2 v3 v4 v5 v6).heap.size = w.heap.size := by
 simp [set7G, World.setCell]
theorem set_get (a : Array Value) (i k : Nat) (v : Value) (h : i < a.size) : (a.setIfInBounds i v)[k]? = if k = i then some v else a[k]? := by
 rw [Array.getElem?_setIfInBounds]
 by_cases e : i = k
 ·subst e
  rw [if_pos rfl, if_pos h, if_pos rfl]
 ·rw [if_neg e, if_neg (fun h => e h.symm)]
theorem arr7 (cur : Array Value) (o : Nat) (v0 v1 v2 v3 v4 v5 v6 : Value) (hs : o + 6 < cur.size) (k : Nat) : (((((((cur.setIfInBounds (o) v0).setIfInBounds (o + 1) v1).setIfInBounds (o + 2) v2).setIfInBounds (o + 3) v3).setIfInBounds (o + 4) v4).setIfInBounds (o + 5) v5).setIfInBounds (o + 6) v6)[k]? = if k = o + 6 then some v6 else if k = o + 5 then some v5 else if k = o + 4 then some v4 else if k = o + 3 then some v3 else if k = o + 2 then some v2 else if k = o + 1 then some v1 else if k = o then some v0 else cur[k]? := by
 rw [set_get _ _ _ _ (by simp; omega), set_get _ _ _ _ (by simp; omega), set_get _ _ _ _ (by simp; omega), set_get _ _ _ _ (by simp; omega), set_get _ _ _ _ (by simp; omega), set_get _ _ _ _ (by simp; omega), set_get _ _ _ _ (by omega)]
theorem cellsE_len : ∀ (l : List R7), (cellsE l).length = l.length * 7
 | [] => rfl
 | r :: l => by
  have := cellsE_len l
  simp only [cellsE, List.flatMap_cons, List.length_append, List.length_cons] at this ⊢
  rw [this]
  have : r.cells.length = 7 := rfl
  omega
/-- One element of a row of trees is laid over. -/
theorem at7_sets {w : World} {g j : Nat} {cur : Array Value} {T : TypeId} {qs : List R7} (q : R7) (h : w.heap[g]? = some (.cells cur T (0, 0))) (hc : cur.toList.take (qs.length * 7) = cellsE qs) (hj : j < qs.length) : ∀ i (hi : i < (qs.set j q).length), At7 (set7G w g (j * 7) (.int .i64 q.k) (.bool q.b) (.int .i64 q.n) (.string q.s) (.string q.t) (.string q.i) (.slice q.lo q.ll q.lc)) g (i * 7) (qs.set j q)[i] := by
 intro i hi
 have hi' : i < qs.length := by simpa using hi
 have hsz : qs.length * 7 ≤ cur.size := by
  have := congrArg List.length hc
  rw [cellsE_len, List.length_take] at this
  simp at this
  omega
 have hg := set7G_heap (o := j * 7) (.int .i64 q.k) (.bool q.b) (.int .i64 q.n) (.string q.s) (.string q.t) (.string q.i) (.slice q.lo q.ll q.lc) h
 have key : ∀ c, c < 7 → (set7G w g (j * 7) (.int .i64 q.k) (.bool q.b) (.int .i64 q.n) (.string q.s) (.string q.t) (.string q.i) (.slice q.lo q.ll q.lc)).cell? ⟨g, i * 7 + c, none⟩ = ((qs.set j q)[i].cells)[c]? := fun c hc7 => by
  rw [Lib.cell_of_heap hg, arr7 cur (j * 7) _ _ _ _ _ _ _ (by omega)]
  by_cases e : i = j
  ·subst e
   rw [List.getElem_set_self]
   have hcc : c = 0 ∨ c = 1 ∨ c = 2 ∨ c = 3 ∨ c = 4 ∨ c = 5 ∨ c = 6 := by omega
   rcases hcc with rfl | rfl | rfl | rfl | rfl | rfl | rfl <;> simp [R7.cells]
  ·rw [if_neg (by omega), if_neg (by omega), if_neg (by omega), if_neg (by omega), if_neg (by omega), if_neg (by omega), if_neg (by omega), List.getElem_set_ne (Ne.symm e), ← cellsE_at qs i hi' c hc7, ← hc, List.getElem?_take, if_pos (by omega)]
   simp
 exact ⟨by have := key 0 (by decide); rw [Nat.add_zero] at this; exact this, key 1 (by decide), key 2 (by decide), key 3 (by decide), key 4 (by decide), key 5 (by decide), key 6 (by decide)⟩
theorem okTs_mem : ∀ (l : List Ex), okTs l → ∀ x ∈ l, okT x
 | [], _, x, h => absurd h List.not_mem_nil
 | e :: l, h, x, hx => by
  unfold okTs at h
  rcases List.mem_cons.1 hx with rfl | h2
  ·exact h.1
  ·exact okTs_mem l h.2 x h2
theorem slL_mem : ∀ (l : List Ex), slL l = true → ∀ x ∈ l, slE x = true
 | [], _, x, h => absurd h List.not_mem_nil
 | e :: l, h, x, hx => by
  unfold slL at h
  simp only [Bool.and_eq_true] at h
  rcases List.mem_cons.1 hx with rfl | h2
  ·exact h.1
  ·exact slL_mem l h.2 x h2
theorem depL_mem : ∀ (l : List Ex) (x : Ex), x ∈ l → depE x ≤ depL l
 | [], x, h => absurd h List.not_mem_nil
 | e :: l, x, hx => by
  unfold depL
  rcases List.mem_cons.1 hx with rfl | h2
  ·exact Nat.le_max_left _ _
  ·exact Nat.le_trans (depL_mem l x h2) (Nat.le_max_right _ _)
/-- A tree of which one kid is another tree. -/
theorem set_ok {k : Int} {b : Bool} {m : Int} {s t i : List UInt8} {l : List Ex} {y : Ex} {n n' : Nat} (j : Nat) (h1 : okT (.mk k b m s t i l)) (h2 : slE (.mk k b m s t i l) = true) (h3 : depE (.mk k b m s t i l) ≤ n) (y1 : okT y) (y2 : slE y = true) (y3 : depE y ≤ n') : okT (.mk k b m s t i (l.set j y)) ∧ slE (.mk k b m s t i (l.set j y)) = true ∧ depE (.mk k b m s t i (l.set j y)) ≤ n + n' + 1 := by
 unfold okT at h1
 unfold slE at h2
 unfold depE at h3
 simp only [Bool.and_eq_true, decide_eq_true_eq] at h2
 have hm : ∀ x ∈ l.set j y, x ∈ l ∨ x = y := fun x hx => List.mem_or_eq_of_mem_set hx
 refine ⟨?_, ?_, ?_⟩
 ·unfold okT
  refine ⟨h1.1, fun h => by rw [List.length_set]; exact h1.2.1 h, h1.2.2.1, okTs_of _ fun x hx => ?_⟩
  rcases hm x hx with h | h
  ·exact okTs_mem l h1.2.2.2 x h
  ·rw [h]; exact y1
 ·unfold slE
  rw [decide_eq_true (by rw [List.length_set]; exact h2.1), slL_of _ fun x hx => ?_]
  ·rfl
  ·rcases hm x hx with h | h
   ·exact slL_mem l h2.2 x h
   ·rw [h]; exact y2
 ·unfold depE
  have := depL_leT (l.set j y) (n + n') fun x hx => by
   rcases hm x hx with h | h
   ·have := depL_mem l x h
    omega
   ·rw [h]
    omega
  omega
/-- The same in memory: its kids were laid anew into a block g of their own, and one of them laid over. -/
theorem set_is {P : Nat → Prop} {w w1 : World} {k : Int} {b : Bool} {m : Int} {s t i : List UInt8} {l : List Ex} {y : Ex} {g j cap : Nat} {cur : Array Value} {T : TypeId} {qs : List R7} {q : R7} (hl : qs.length = l.length) (hx : ∀ i (hi : i < qs.length) (hi' : i < l.length), IsE w P qs[i] l[i]) (hy : IsE w P q y) (hPg : P g) (hw : w.heap.size ≤ w1.heap.size) (hk : ∀ c, c < w.heap.size → w1.heap[c]? = w.heap[c]?) (hgw : w.heap.size ≤ g) (hg : w1.heap[g]? = some (.cells cur T (0, 0))) (hc : cur.toList.take (qs.length * 7) = cellsE qs) (hj : j < qs.length) :
  IsE (set7G w1 g (j * 7) (.int .i64 q.k) (.bool q.b) (.int .i64 q.n) (.string q.s) (.string q.t) (.string q.i) (.slice q.lo q.ll q.lc)) P ⟨k, b, m, ba s, ba t, ba i, some ⟨g, 0, none⟩, qs.length, cap⟩ (.mk k b m s t i (l.set j y)) := by
 have hz := set7G_size w1 g (j * 7) (.int .i64 q.k) (.bool q.b) (.int .i64 q.n) (.string q.s) (.string q.t) (.string q.i) (.slice q.lo q.ll q.lc)
 have up : ∀ (r : R7) (e : Ex), IsE w P r e → IsE (set7G w1 g (j * 7) (.int .i64 q.k) (.bool q.b) (.int .i64 q.n) (.string q.s) (.string q.t) (.string q.i) (.slice q.lo q.ll q.lc)) P r e := fun r e h => IsE.turn (by rw [hz]; exact hw) (fun c hc2 hlt => ⟨(set7G_other _ _ _ _ _ _ _ _ _ _ _ (by omega)).trans (hk c hlt), hc2⟩) r e h
 unfold IsE
 refine ⟨rfl, rfl, rfl, rfl, rfl, rfl, by rw [List.length_set]; exact hl, isEs_list hPg (by rw [hz]; exact (Array.getElem?_eq_some_iff.1 hg).1) (qs.set j q) _ 0 (by simp [hl]) (fun c hi => by rw [Nat.zero_add]; exact at7_sets q hg hc hj c hi) (fun c hi hi' => ?_)⟩
 rw [List.getElem_set, List.getElem_set]
 by_cases e : j = c
 ·rw [if_pos e, if_pos e]
  exact up _ _ hy
 ·rw [if_neg e, if_neg e]
  exact up _ _ (hx c (by simpa using hi) (by simpa using hi'))
theorem news_cells {w : World} {b off : Nat} {qs : List R7} (h : ∀ i (hi : i < qs.length), At7 w b (off + i * 7) qs[i]) : ∀ j u, (cellsE qs)[j]? = some u → w.cell? ((⟨b, off, none⟩ : Addr).add j) = some u := by
 intro j u hu
 have hj : j < qs.length * 7 := by
  have := (List.getElem?_eq_some_iff.1 hu).1
  rw [cellsE_len] at this
  exact this
 have hi : j / 7 < qs.length := by omega
 have e : j = j / 7 * 7 + j % 7 := by omega
 have hc : j % 7 < 7 := Nat.mod_lt _ (by decide)
 have ha := h (j / 7) hi
 rw [e, cellsE_at qs (j / 7) hi (j % 7) hc] at hu
 rw [Addr.add_lit, show off + j = off + j / 7 * 7 + j % 7 by omega]
 obtain ⟨c0, c1, c2, c3, c4, c5, c6⟩ := ha
 have hcc : j % 7 = 0 ∨ j % 7 = 1 ∨ j % 7 = 2 ∨ j % 7 = 3 ∨ j % 7 = 4 ∨ j % 7 = 5 ∨ j % 7 = 6 := by omega
 rcases hcc with h | h | h | h | h | h | h <;> rw [h] at hu ⊢
 ·rw [Nat.add_zero]; exact c0.trans hu
 ·exact c1.trans hu
 ·exact c2.trans hu
 ·exact c3.trans hu
 ·exact c4.trans hu
 ·exact c5.trans hu
 ·exact c6.trans hu
theorem news_one {qs : List R7} : ∀ u ∈ cellsE qs, u.oneCell' = true := by
 intro u hu
 unfold cellsE at hu
 obtain ⟨r, _, hr⟩ := List.mem_flatMap.1 hu
 exact cellE_one r u hr
/-- What two stores into new places leave of a tree. -/
theorem two_keep {w : World} {P : Nat → Prop} {q : R7} {e : Ex} {b c : Nat} (ho : okT e) (h : IsE w P q e) (hb : w.heap[b]? = some z7o) (hc : w.heap[c]? = some z7o) (u0 u1 u2 u3 u4 u5 u6 v0 v1 v2 v3 v4 v5 v6 : Value) : IsE (set7S (set7S w b u0 u1 u2 u3 u4 u5 u6) c v0 v1 v2 v3 v4 v5 v6) (fun a => a ≠ b) q e :=
 IsE.turn (by rw [set7S_size, set7S_size]; exact Nat.le_refl _) (fun a hp _ => by
  have h1 : a ≠ b := fun e => hp.2 (by rw [e]; exact hb)
  have h2 : a ≠ c := fun e => hp.2 (by rw [e]; exact hc)
  exact ⟨(set7S_heap _ _ _ _ _ _ _ _ _ _ h2).trans (set7S_heap _ _ _ _ _ _ _ _ _ _ h1), h1⟩) q e (IsE.notz q e ho h)
def blkB (B : Nat) (f : Nat → Value) (o : Obj) : UpP := ⟨fun v w => ∃ b, B ≤ b ∧ v = f b ∧ w.heap[b]? = some o, fun _ _ _ hb ⟨b, hB, e, h⟩ => ⟨b, hB, e, kept_of_below hb h⟩⟩
def typP (s : SP) : UpP := ⟨fun v _ => ∃ t : T3, v = .agg #[.int .i64 t.k, .int .i64 t.o, .string t.n] ∧ GTy s t, fun _ _ _ _ h => h⟩
def treeA (B : Nat) (s : SP) (p r : ByteArray) (n : Nat) : UpP := ⟨fun v w => ∃ (t : T3) (q : R7) (e : Ex), v = .agg #[.int .i64 q.k, .bool q.b, .int .i64 q.n, .string q.s, .string q.t, .string q.i, .slice q.lo q.ll q.lc] ∧ MadeE B s p r t n w q e, fun _ _ _ hb ⟨t, q, e, h1, h⟩ => ⟨t, q, e, h1, h.up hb⟩⟩
end Go.Proofs.Ytagnbpobcijakaa
