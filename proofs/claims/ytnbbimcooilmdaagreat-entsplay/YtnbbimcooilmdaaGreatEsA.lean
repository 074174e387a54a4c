/-
  ents.Same of what is the same.
-/
import Derived.Test.YtnbbimcooilmdaaGreatEcF
import Derived.BigGuardPart
import Derived.BigCall
import Derived.Deep.QuietTactic
import Derived.BigQuiet
namespace Go.Proofs.YtnbbimcooilmdaaGreat
open Go.RowKit Go.Sort

set_option maxHeartbeats 2000000 in
set_option maxRecDepth 1000000 in
theorem EqValue_true (l l' : List R7) (ao ao' : Option Addr) (c c' : Nat) (w : World) (hl : l.length ≤ 1048576) (he : l'.length = l.length) (hr : RowG w ao 7 (l.map R7.cells)) (hr' : RowG w ao' 7 (l'.map R7.cells))
    (S : ∀ j (h : j < l.length) (h' : j < l'.length) w', Below w.heap.size w w' → Calls Tryz.prog 55 #[l[j].val, l'[j].val] w' fun e w'' => e = .returned (.bool true) ∧ Below w'.heap.size w' w'') :
    Calls Tryz.prog 65 #[.slice ao l.length c, .slice ao' l'.length c', .func (.func 55) #[] #[]] w fun e w' => e = .returned (.bool true) ∧ Below w.heap.size w w' := by
  have HS := hide S
  have HE := hide he
  rw [he]
  clear S he
  go_enter Tryz.func65, Tryz.ntmps65
  go_wp2
  go_loopw [17] (fun iv wr => ∃ i : Nat, iv = .int .i64 i ∧ i ≤ l.length ∧ Below w.heap.size w wr) (fun iv _ => l.length - (intOf iv).toNat)
  case atStart => exact ⟨0, by go_num, Nat.zero_le _, Below.refl _ _⟩
  case round =>
    obtain ⟨j, rfl, hj, hbw⟩ := hrel
    by_cases hlt : j < l.length
    · have i1 : (j : Int) < (l.length : Int) := by omega
      have hlt' : j < l'.length := by rw [unhide HE]; exact hlt
      obtain ⟨b, off, rfl, hb, hcx⟩ := rowG_at hr hbw hlt
      obtain ⟨b', off', rfl, hb', hcy⟩ := rowG_at hr' hbw hlt'
      have A : At7 wr b (off + j * 7) l[j] := (by have h := hcx; exact ⟨h 0 _ rfl, h 1 _ rfl, h 2 _ rfl, h 3 _ rfl, h 4 _ rfl, h 5 _ rfl, h 6 _ rfl⟩)
      have B : At7 wr b' (off' + j * 7) l'[j] := (by have h := hcy; exact ⟨h 0 _ rfl, h 1 _ rfl, h 2 _ rfl, h 3 _ rfl, h 4 _ rfl, h 5 _ rfl, h 6 _ rfl⟩)
      have SJ := unhide HS j hlt hlt'
      obtain ⟨x, hx⟩ : ∃ x, x = l[j] := ⟨_, rfl⟩
      obtain ⟨y, hy⟩ : ∃ y, y = l'[j] := ⟨_, rfl⟩
      rw [← hx] at A SJ
      rw [← hy] at B SJ
      clear hx hy hcx hcy
      unfold R7.val at SJ
      have b1 := below1 wr (.cells #[.int .i64 x.k, .bool x.b, .int .i64 x.n, .string x.s, .string x.t, .string x.i, .slice x.lo x.ll x.lc] 52)
      have B1 := B.below b1 (Nat.lt_of_lt_of_le hb' hbw.size)
      have b2 := below1 (wr.alloc (.cells #[.int .i64 x.k, .bool x.b, .int .i64 x.n, .string x.s, .string x.t, .string x.i, .slice x.lo x.ll x.lc] 52)) (.cells #[.int .i64 y.k, .bool y.b, .int .i64 y.n, .string y.s, .string y.t, .string y.i, .slice y.lo y.ll y.lc] 52)
      have b02 := (hbw.trans (b1.mono hbw.size)).trans (b2.mono (hbw.trans (b1.mono hbw.size)).size)
      have SC := SJ _ b02
      obtain ⟨a0, a1, a2, a3, a4, a5, a6⟩ := A
      obtain ⟨d0, d1, d2, d3, d4, d5, d6⟩ := B1
      clear SJ B
      go_wp2_with fail
      clear a0 a1 a2 a3 a4 a5 a6 d0 d1 d2 d3 d4 d5 d6
      generalize (wr.alloc _).alloc _ = w2 at *
      refine SC.mono ?_
      rintro e w3 ⟨rfl, b3⟩
      have b03 := b02.trans (b3.mono b02.size)
      go_wp2
      go_roundw
      case rel => exact ⟨j + 1, by go_num, by omega, b03⟩
      case measure =>
        simp only [intOf]
        omega
    · have i1 : ¬ (j : Int) < (l.length : Int) := by omega
      go_wp2
      go_ret
      exact ⟨rfl, hbw⟩

/-- Two values alike, their lists aside. -/
def AlikeR (r r' : R7) : Prop := r'.k = r.k ∧ r'.b = r.b ∧ r'.n = r.n ∧ r'.s = r.s ∧ r'.t = r.t ∧ r'.i = r.i ∧ r'.ll = r.ll
set_option maxHeartbeats 2000000 in
set_option maxRecDepth 1000000 in
theorem sameValue_of (R R' : R7) (l : List PV) (w : World) (ha : AlikeR R R') (hll : R.ll = l.length) (hl : l.length ≤ 1048576) (hr : RowV w R.lo (l.map ofP)) (hr' : RowV w R'.lo (l.map ofP))
    (IH : ∀ p ∈ l, ∀ w', Calls Tryz.prog 55 #[(ofP p).val, (ofP p).val] w' fun e w'' => e = .returned (.bool true) ∧ Below w'.heap.size w' w'') :
    Calls Tryz.prog 55 #[R.val, R'.val] w fun e w' => e = .returned (.bool true) ∧ Below w.heap.size w w' := by
  obtain ⟨rk, rb, rn, rs, rt, ri, rlo, n, rlc⟩ := R
  obtain ⟨rk', rb', rn', rs', rt', ri', rlo', n', rlc'⟩ := R'
  obtain ⟨h1, h2, h3, h4, h5, h6, h7⟩ := ha
  simp only at h1 h2 h3 h4 h5 h6 h7 hll hr hr'
  subst h1 h2 h3 h4 h5 h6 h7
  have b2 := below2 w (.cells #[.int .i64 rk', .bool rb', .int .i64 rn', .string rs', .string rt', .string ri', .slice rlo n' rlc] 52) (.cells #[.int .i64 rk', .bool rb', .int .i64 rn', .string rs', .string rt', .string ri', .slice rlo' n' rlc'] 52)
  have EQ := EqValue_true (l.map ofP) (l.map ofP) rlo rlo' rlc rlc' _ (by simpa using hl) rfl ((rowG_V.1 hr).below b2) ((rowG_V.1 hr').below b2) (fun j h _ w' _ => by
    rw [List.getElem_map]
    exact IH _ (List.getElem_mem _) w')
  rw [List.length_map, ← hll] at EQ
  clear hr hr' IH hll hl
  unfold R7.val
  simp only
  go_enter Tryz.func55, Tryz.ntmps55
  go_wp2_with fail
  generalize (w.alloc _).alloc _ = w2 at *
  refine EQ.mono ?_
  rintro e w3 ⟨rfl, b3⟩
  go_wp2
  go_ret
  exact ⟨rfl, b2.trans (b3.mono b2.size)⟩
theorem sameValue_plain (p : PV) (w : World) : Calls Tryz.prog 55 #[(ofP p).val, (ofP p).val] w fun e w' => e = .returned (.bool true) ∧ Below w.heap.size w w' :=
  sameValue_of (ofP p) (ofP p) [] w ⟨rfl, rfl, rfl, rfl, rfl, rfl, rfl⟩ (by cases p <;> rfl) (Nat.zero_le _) (fun _ hj => absurd hj (Nat.not_lt_zero _)) (fun _ hj => absurd hj (Nat.not_lt_zero _)) (fun _ h => by cases h)
theorem sameValue_true (G : GV) (R R' : R7) (w : World) (h : IsG w G R) (h' : IsG w G R') (hl : G.len ≤ 1048576) :
    Calls Tryz.prog 55 #[R.val, R'.val] w fun e w' => e = .returned (.bool true) ∧ Below w.heap.size w w' := by
  cases G with
  | pl p =>
    obtain rfl : R = ofP p := h
    obtain rfl : R' = ofP p := h'
    exact sameValue_plain p w
  | set l =>
    obtain ⟨ao, c, rfl, hr, _⟩ := h
    obtain ⟨ao', c', rfl, hr', _⟩ := h'
    exact sameValue_of _ _ l w ⟨rfl, rfl, rfl, rfl, rfl, rfl, rfl⟩ rfl hl hr hr' (fun p _ w' => sameValue_plain p w')

set_option maxHeartbeats 2000000 in
set_option maxRecDepth 1000000 in
theorem EqAttr_true (l l' : List A8) (ao ao' : Option Addr) (c c' : Nat) (w : World) (hl : l.length ≤ 1048576) (he : l'.length = l.length) (hr : RowG w ao 8 (l.map A8.cells)) (hr' : RowG w ao' 8 (l'.map A8.cells))
    (S : ∀ j (h : j < l.length) (h' : j < l'.length) w', Below w.heap.size w w' → Calls Tryz.prog 35 #[l[j].val, l'[j].val] w' fun e w'' => e = .returned (.bool true) ∧ Below w'.heap.size w' w'') :
    Calls Tryz.prog 34 #[.slice ao l.length c, .slice ao' l'.length c', .func (.func 35) #[] #[]] w fun e w' => e = .returned (.bool true) ∧ Below w.heap.size w w' := by
  have HS := hide S
  have HE := hide he
  rw [he]
  clear S he
  go_enter Tryz.func34, Tryz.ntmps34
  go_wp2
  go_loopw [17] (fun iv wr => ∃ i : Nat, iv = .int .i64 i ∧ i ≤ l.length ∧ Below w.heap.size w wr) (fun iv _ => l.length - (intOf iv).toNat)
  case atStart => exact ⟨0, by go_num, Nat.zero_le _, Below.refl _ _⟩
  case round =>
    obtain ⟨j, rfl, hj, hbw⟩ := hrel
    by_cases hlt : j < l.length
    · have i1 : (j : Int) < (l.length : Int) := by omega
      have hlt' : j < l'.length := by rw [unhide HE]; exact hlt
      obtain ⟨b, off, rfl, hb, hcx⟩ := rowG_at hr hbw hlt
      obtain ⟨b', off', rfl, hb', hcy⟩ := rowG_at hr' hbw hlt'
      have A : AtE8 wr b (off + j * 8) l[j] := AtE8.of hcx
      have B : AtE8 wr b' (off' + j * 8) l'[j] := AtE8.of hcy
      have SJ := unhide HS j hlt hlt'
      obtain ⟨x, hx⟩ : ∃ x, x = l[j] := ⟨_, rfl⟩
      obtain ⟨y, hy⟩ : ∃ y, y = l'[j] := ⟨_, rfl⟩
      rw [← hx] at A SJ
      rw [← hy] at B SJ
      clear hx hy hcx hcy
      unfold A8.val at SJ
      have b1 := below1 wr (.cells #[.string x.nm, .int .i64 x.v.k, .bool x.v.b, .int .i64 x.v.n, .string x.v.s, .string x.v.t, .string x.v.i, .slice x.v.lo x.v.ll x.v.lc] 56)
      have B1 := B.below b1 (Nat.lt_of_lt_of_le hb' hbw.size)
      have b2 := below1 (wr.alloc (.cells #[.string x.nm, .int .i64 x.v.k, .bool x.v.b, .int .i64 x.v.n, .string x.v.s, .string x.v.t, .string x.v.i, .slice x.v.lo x.v.ll x.v.lc] 56)) (.cells #[.string y.nm, .int .i64 y.v.k, .bool y.v.b, .int .i64 y.v.n, .string y.v.s, .string y.v.t, .string y.v.i, .slice y.v.lo y.v.ll y.v.lc] 56)
      have b02 := (hbw.trans (b1.mono hbw.size)).trans (b2.mono (hbw.trans (b1.mono hbw.size)).size)
      have SC := SJ _ b02
      obtain ⟨a0, a1, a2, a3, a4, a5, a6, a7⟩ := A
      obtain ⟨d0, d1, d2, d3, d4, d5, d6, d7⟩ := B1
      clear SJ B
      go_wp2_with fail
      clear a0 a1 a2 a3 a4 a5 a6 a7 d0 d1 d2 d3 d4 d5 d6 d7
      generalize (wr.alloc _).alloc _ = w2 at *
      refine SC.mono ?_
      rintro e w3 ⟨rfl, b3⟩
      have b03 := b02.trans (b3.mono b02.size)
      go_wp2
      go_roundw
      case rel => exact ⟨j + 1, by go_num, by omega, b03⟩
      case measure =>
        simp only [intOf]
        omega
    · have i1 : ¬ (j : Int) < (l.length : Int) := by omega
      go_wp2
      go_ret
      exact ⟨rfl, hbw⟩

set_option maxHeartbeats 2000000 in
set_option maxRecDepth 1000000 in
theorem sameAttr_true (a a' : A8) (G : GV) (w : World) (hn : a'.nm = a.nm) (h : IsG w G a.v) (h' : IsG w G a'.v) (hl : G.len ≤ 1048576) :
    Calls Tryz.prog 35 #[a.val, a'.val] w fun e w' => e = .returned (.bool true) ∧ Below w.heap.size w w' := by
  obtain ⟨nm, x⟩ := a
  obtain ⟨nm', y⟩ := a'
  simp only at hn h h'
  subst hn
  have b2 := below2 w (.cells #[.string nm', .int .i64 x.k, .bool x.b, .int .i64 x.n, .string x.s, .string x.t, .string x.i, .slice x.lo x.ll x.lc] 56) (.cells #[.string nm', .int .i64 y.k, .bool y.b, .int .i64 y.n, .string y.s, .string y.t, .string y.i, .slice y.lo y.ll y.lc] 56)
  have S := sameValue_true G x y _ (h.below b2) (h'.below b2) hl
  unfold R7.val at S
  unfold A8.val
  simp only
  clear h h' hl
  go_enter Tryz.func35, Tryz.ntmps35
  go_wp2_with fail
  generalize (w.alloc _).alloc _ = w2 at *
  refine S.mono ?_
  rintro e w3 ⟨rfl, b3⟩
  go_wp2
  go_ret
  exact ⟨rfl, b2.trans (b3.mono b2.size)⟩

set_option maxHeartbeats 2000000 in
set_option maxRecDepth 1000000 in
theorem EqUid_true (l : List U2) (ao ao' : Option Addr) (c c' : Nat) (w : World) (hl : l.length ≤ 1048576) (hr : RowG w ao 2 (l.map U2.cells)) (hr' : RowG w ao' 2 (l.map U2.cells)) :
    Calls Tryz.prog 33 #[.slice ao l.length c, .slice ao' l.length c'] w fun e w' => e = .returned (.bool true) ∧ Below w.heap.size w w' := by
  go_enter Tryz.func33, Tryz.ntmps33
  go_wp2
  go_loopw [13] (fun iv wr => ∃ i : Nat, iv = .int .i64 i ∧ i ≤ l.length ∧ Below w.heap.size w wr) (fun iv _ => l.length - (intOf iv).toNat)
  case atStart => exact ⟨0, by go_num, Nat.zero_le _, Below.refl _ _⟩
  case round =>
    obtain ⟨j, rfl, hj, hbw⟩ := hrel
    by_cases hlt : j < l.length
    · have i1 : (j : Int) < (l.length : Int) := by omega
      have k0 : (0 : Int) ≤ (j : Int) := by omega
      obtain ⟨b, off, rfl, hb, hcx⟩ := rowG_at hr hbw hlt
      obtain ⟨b', off', rfl, hb', hcy⟩ := rowG_at hr' hbw hlt
      have A : AtE2 wr b (off + j * 2) l[j] := AtE2.of hcx
      have B : AtE2 wr b' (off' + j * 2) l[j] := AtE2.of hcy
      obtain ⟨x, hx⟩ : ∃ x, x = l[j] := ⟨_, rfl⟩
      rw [← hx] at A B
      clear hx hcx hcy
      obtain ⟨a0, a1⟩ := A
      obtain ⟨d0, d1⟩ := B
      go_wp2_with fail
      go_quiet (fail)
      have b3 := hbw.trans ((below_drewN wr nq).mono hbw.size)
      go_wp2
      go_roundw
      case rel => exact ⟨j + 1, by go_num, by omega, b3⟩
      case measure =>
        simp only [intOf]
        omega
    · have i1 : ¬ (j : Int) < (l.length : Int) := by omega
      go_wp2
      go_ret
      exact ⟨rfl, hbw⟩

set_option maxHeartbeats 2000000 in
set_option maxRecDepth 1000000 in
theorem esame_true (e e' : E4) (p : EntP) (P P' : Nat → Prop) (w : World) (H : IsEnt w P e p) (H' : IsEnt w P' e' p) (hf : p.fits) :
    Calls Tryz.prog 16 #[e.val, e'.val] w fun x w' => x = .returned (.bool true) ∧ Below w.heap.size w w' := by
  obtain ⟨et, ei, po, m, pc, ao, n, ac⟩ := e
  obtain ⟨et', ei', po', m', pc', ao', n', ac'⟩ := e'
  obtain ⟨rs, hal, hrA, _, hAs⟩ := H.ats
  obtain ⟨rs', hal', hrA', _, hAs'⟩ := H'.ats
  have hu : (⟨et', ei'⟩ : U2) = ⟨et, ei⟩ := H'.u.trans H.u.symm
  have hpl : m = p.ps.length := H.pl
  have hpl' : m' = p.ps.length := H'.pl
  have hrU : RowG w po 2 (p.ps.map U2.cells) := H.rowU
  have hrU' : RowG w po' 2 (p.ps.map U2.cells) := H'.rowU
  simp only at hal hal' hrA hrA'
  simp only [U2.mk.injEq] at hu
  obtain ⟨rfl, rfl⟩ := hu
  clear H H'
  have b2 := below2 w (.cells #[.string et', .string ei', .slice po m pc, .slice ao n ac] 29) (.cells #[.string et', .string ei', .slice po' m' pc', .slice ao' n' ac'] 29)
  have EU := fun w' hb => EqUid_true p.ps po po' pc pc' w' hf.1 (hrU.below hb) (hrU'.below hb)
  have EA := fun w' (hb : Below w.heap.size w w') => EqAttr_true rs rs' ao ao' ac ac' w' (by rw [hAs.1]; exact hf.2.1) (by rw [hAs.1, hAs'.1]) (hrA.below hb) (hrA'.below hb) (fun j h h' w2 hb2 => by
    have hj : j < p.ats.length := by rw [← hAs.1]; exact h
    obtain ⟨n1, g1⟩ := hAs.2 j h hj
    obtain ⟨n2, g2⟩ := hAs'.2 j h' hj
    have hb3 := hb.trans (hb2.mono hb.size)
    exact sameAttr_true rs[j] rs'[j] p.ats[j].2 w2 (n2.trans n1.symm) (IsG.below g1.1 hb3) (IsG.below g2.1 hb3) (hf.2.2 _ (List.getElem_mem _)))
  rw [← hal, ← hal'] at EA
  have hmm : m' = m := by omega
  have hnn : n' = n := by rw [hal, hal', hAs.1, hAs'.1]
  subst hmm hnn
  rw [← hpl'] at EU
  have EU2 := EU _ b2
  clear hrU hrU' hrA hrA' hAs hAs' hal hal' hpl hpl' hf EU
  unfold E4.val
  simp only
  go_enter Tryz.func16, Tryz.ntmps16
  go_wp2_with fail
  have c2 : ((w.alloc (.cells #[.string et', .string ei', .slice po m' pc, .slice ao n' ac] 29)).alloc (.cells #[.string et', .string ei', .slice po' m' pc', .slice ao' n' ac'] 29)).cell? ⟨w.heap.size, 3, none⟩ = some (.slice ao n' ac) := by simp
  have c3 : ((w.alloc (.cells #[.string et', .string ei', .slice po m' pc, .slice ao n' ac] 29)).alloc (.cells #[.string et', .string ei', .slice po' m' pc', .slice ao' n' ac'] 29)).cell? ⟨w.heap.size + 1, 3, none⟩ = some (.slice ao' n' ac') := by simp
  have z2 : ((w.alloc (.cells #[.string et', .string ei', .slice po m' pc, .slice ao n' ac] 29)).alloc (.cells #[.string et', .string ei', .slice po' m' pc', .slice ao' n' ac'] 29)).heap.size = w.heap.size + 2 := by simp
  generalize (w.alloc _).alloc _ = w2 at *
  refine EU2.mono ?_
  rintro x w3 ⟨rfl, b3⟩
  have b03 := b2.trans (b3.mono b2.size)
  have d2 := (b3.cell (p := ⟨w.heap.size, 3, none⟩) (by show w.heap.size < _; omega)).trans c2
  have d3 := (b3.cell (p := ⟨w.heap.size + 1, 3, none⟩) (by show w.heap.size + 1 < _; omega)).trans c3
  have EA3 := EA w3 b03
  clear EA EU2 c2 c3
  go_wp2_with fail
  refine EA3.mono ?_
  rintro x w4 ⟨rfl, b4⟩
  go_wp2
  go_ret
  exact ⟨rfl, b03.trans (b4.mono b03.size)⟩
end Go.Proofs.YtnbbimcooilmdaaGreat
