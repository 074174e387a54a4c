/-
  chancelref3.Same and Less of sets of plain values: what they return.
  chancelref3.Same of the same value; chancelref8.Get: what they return.
  chancelref8.Drop: what it returns.
  chancelref8.Put: what it returns.
-/
import Derived.Test.YthmmplmppchfmaaValX
import Derived.Test.YthmmplmppchfmaaEcGB
import Derived.Test.YthmmplmppchfmaaGdA
import Derived.Test.YthmmplmppchfmaaVfP
import Derived.Test.YthmmplmppchfmaaGdU
namespace Go.Proofs.Ythmmplmppchfmaa
open Go.RowKit Go.Sort

/-- Seven cells in a row, in whatever world the region may be in. -/
def Seven (wr : World) (b o : Nat) (k : Int) (bb : Bool) (n : Int) (s t i : ByteArray) (lv : Value) : Prop :=
  (∀ d os, (grow (redrawn wr d) os).cell? ⟨b, o, none⟩ = some (.int .i64 k)) ∧ (∀ d os, (grow (redrawn wr d) os).cell? ⟨b, o + 1, none⟩ = some (.bool bb)) ∧ (∀ d os, (grow (redrawn wr d) os).cell? ⟨b, o + 2, none⟩ = some (.int .i64 n)) ∧
  (∀ d os, (grow (redrawn wr d) os).cell? ⟨b, o + 3, none⟩ = some (.string s)) ∧ (∀ d os, (grow (redrawn wr d) os).cell? ⟨b, o + 4, none⟩ = some (.string t)) ∧ (∀ d os, (grow (redrawn wr d) os).cell? ⟨b, o + 5, none⟩ = some (.string i)) ∧ (∀ d os, (grow (redrawn wr d) os).cell? ⟨b, o + 6, none⟩ = some lv)

/-- An element of a row, as the walk wants it. -/
theorem rowP_at {w2 wr : World} {ao : Option Addr} {l : List PV} (h : RowP w2 ao l) (hbw : Below w2.heap.size w2 wr) {j : Nat} (hj : j < l.length) :
    ∃ b off a0 c0 k bb n s t i, ao = some ⟨b, off, none⟩ ∧ valP l[j] (.slice a0 0 c0) = .agg #[.int .i64 k, .bool bb, .int .i64 n, .string s, .string t, .string i, .slice a0 0 c0] ∧ Seven wr b (off + j * 7) k bb n s t i (.slice a0 0 c0) := by
  obtain ⟨b, off, a0, c0, e, hb, hc⟩ := h j hj
  generalize l[j] = p at *
  obtain ⟨k, bb, n, s, t, i, hp, hcs⟩ : ∃ k bb n s t i, valP p (.slice a0 0 c0) = val7 k bb n s t i (.slice a0 0 c0) ∧ cellsP p (.slice a0 0 c0) = [.int .i64 k, .bool bb, .int .i64 n, .string s, .string t, .string i, .slice a0 0 c0] := by
    cases p <;> exact ⟨_, _, _, _, _, _, rfl, rfl⟩
  rw [hcs] at hc
  have up : ∀ {a : Addr} {v : Value}, a.block < w2.heap.size → w2.cell? a = some v → ∀ d os, (grow (redrawn wr d) os).cell? a = some v := fun h1 h2 d os => cell_regrown ((hbw.cell h1).trans h2) d os
  exact ⟨b, off, a0, c0, k, bb, n, s, t, i, e, hp, up (a := ⟨b, off + j * 7 + 0, none⟩) hb (hc 0 _ rfl), up (a := ⟨b, off + j * 7 + 1, none⟩) hb (hc 1 _ rfl), up (a := ⟨b, off + j * 7 + 2, none⟩) hb (hc 2 _ rfl), up (a := ⟨b, off + j * 7 + 3, none⟩) hb (hc 3 _ rfl),
    up (a := ⟨b, off + j * 7 + 4, none⟩) hb (hc 4 _ rfl), up (a := ⟨b, off + j * 7 + 5, none⟩) hb (hc 5 _ rfl), up (a := ⟨b, off + j * 7 + 6, none⟩) hb (hc 6 _ rfl)⟩

/-- A set as the program holds it. -/
def valS (lv : Value) : Value := val7 5 false 0 (ba []) (ba []) (ba []) lv

theorem two_worlds (w : World) (v v' : Value) : ∃ w2, (w.alloc (.cells #[.int .i64 5, .bool false, .int .i64 0, .string (ba []), .string (ba []), .string (ba []), v] 49)).alloc (.cells #[.int .i64 5, .bool false, .int .i64 0, .string (ba []), .string (ba []), .string (ba []), v'] 49) = w2 ∧ w2.heap.size = w.heap.size + 2 ∧
    Below w.heap.size w w2 ∧ w2.cell? ⟨w.heap.size, 6, none⟩ = some v ∧ w2.cell? ⟨w.heap.size + 1, 6, none⟩ = some v' := by
  refine ⟨_, rfl, by simp, below2 _ _ _, by simp, by simp⟩

set_option maxHeartbeats 1000000 in
theorem r3same_len (l m : Nat) (ao bo : Option Addr) (ca cb : Nat) (h : l ≠ m) (w : World) :
    Calls Try.prog 73 #[valS (.slice ao l ca), valS (.slice bo m cb)] w fun e w' => e = .returned (.bool false) ∧ Below w.heap.size w w' := by
  have hb : ((l : Int) == (m : Int)) = false := by simpa using (show (l : Int) ≠ m by omega)
  unfold valS val7
  go_enter Try.func73, Try.ntmps73
  go_wp2
  go_ret
  exact ⟨rfl, below2 _ _ _⟩

set_option maxHeartbeats 1000000 in
theorem r3same_set (l m : List PV) (ao bo : Option Addr) (ca cb : Nat) (w : World) (hl : l.length ≤ 1048576) (hr : RowP w ao l) (hs : RowP w bo m) :
    Calls Try.prog 73 #[valS (.slice ao l.length ca), valS (.slice bo m.length cb)] w fun e w' => e = .returned (.bool (decide (l = m))) ∧ Below w.heap.size w w' := by
  by_cases hlen : l.length = m.length
  case neg =>
    rw [decide_eq_false (fun e => hlen (by rw [e]))]
    exact r3same_len _ _ _ _ _ _ hlen w
  have HL := hide hlen
  have hb0 : ((l.length : Int) == (m.length : Int)) = true := by simpa using (show (l.length : Int) = m.length by omega)
  have hb1 : ((l.length : Int) != (m.length : Int)) = false := by rw [bne, hb0]; rfl
  clear hlen
  unfold valS val7
  go_enter Try.func73, Try.ntmps73
  go_wp2
  clear hb0 hb1
  obtain ⟨w2, ew, z2, b02, c6, d6⟩ := two_worlds w (.slice ao l.length ca) (.slice bo m.length cb)
  rw [ew]
  have hr2 := hr.below b02
  have hs2 := hs.below b02
  clear ew hr hs
  go_loopw [5] (fun iv wr => ∃ i : Nat, iv = .int .i64 i ∧ i ≤ l.length ∧ Below w2.heap.size w2 wr ∧ (l = m ↔ l.drop i = m.drop i)) (fun iv _ => l.length - (intOf iv).toNat)
  case atStart => exact ⟨0, by go_num, Nat.zero_le _, Below.refl _ _, by simp⟩
  case round =>
    obtain ⟨j, rfl, hj, hbw, hacc⟩ := hrel
    have Hacc := hide hacc
    clear hacc
    have e6 := (hbw.cell (p := ⟨w.heap.size, 6, none⟩) (by show w.heap.size < _; omega)).trans c6
    by_cases hlt : j < l.length
    · have hlt2 : j < m.length := by rw [← unhide HL]; exact hlt
      have i1 : (j : Int) < (l.length : Int) := by omega
      have i2 : (j : Int) < (m.length : Int) := by omega
      have i0 : (0 : Int) ≤ (j : Int) := by omega
      obtain ⟨b, off, a0, c0, k, bb, n, s, t, i, rfl, hv, F0, F1, F2, F3, F4, F5, F6⟩ := rowP_at hr2 hbw hlt
      obtain ⟨b', off', a0', c0', k', bb', n', s', t', i', rfl, hv', G0, G1, G2, G3, G4, G5, G6⟩ := rowP_at hs2 hbw hlt2
      have SM := r3same_plain l[j] m[j] a0 a0' c0 c0'
      rw [hv, hv'] at SM
      have HS := hide (show l.drop j = m.drop j ↔ l[j] = m[j] ∧ l.drop (j + 1) = m.drop (j + 1) by rw [List.drop_eq_getElem_cons hlt, List.drop_eq_getElem_cons hlt2, List.cons.injEq])
      generalize l[j] = p at *
      generalize m[j] = q at *
      have E6 := fun d os => cell_regrown e6 d os
      have D6 := fun d os => cell_regrown ((hbw.cell (p := ⟨w.heap.size + 1, 6, none⟩) (by show w.heap.size + 1 < _; omega)).trans d6) d os
      have cS := fun d os => Calls.regrown_of (w := wr) (d := d) (os := os) (SM (grow (redrawn wr d) os))
      clear hv hv' SM c6 d6 hr2 hs2
      go_wp2_with fail
      refine wp_region_quiet_below (by kernel_rfl) (by kernel_rfl) ?_
      repeat (quiet_step (exact cS _ _))
      refine wpQuiet_nil ?_
      intro _ hw'
      obtain ⟨⟨dq, osq⟩, hw''⟩ := hw'
      subst hw''
      have hbw3 : Below w2.heap.size w2 (grow (redrawn wr dq) osq) := hbw.trans ((below_regrown wr dq osq).mono hbw.size)
      by_cases hpq : p = q
      · have hd : decide (p = q) = true := decide_eq_true hpq
        rw [hd]
        go_wp2
        go_roundw
        case rel =>
          refine ⟨j + 1, by go_num, by omega, hbw3, ?_⟩
          rw [unhide Hacc, unhide HS]
          exact ⟨fun h => h.2, fun h => ⟨hpq, h⟩⟩
        case measure =>
          simp only [intOf]
          omega
      · have hd : decide (p = q) = false := decide_eq_false hpq
        rw [hd]
        go_wp2
        go_ret
        exact ⟨ret_bool (decide_eq_false (fun h => hpq ((unhide HS).1 ((unhide Hacc).1 h)).1)).symm, b02.trans (hbw3.mono b02.size)⟩
    · have i1 : ¬ (j : Int) < (l.length : Int) := by omega
      go_wp2
      go_ret
      refine ⟨ret_bool (decide_eq_true ?_).symm, b02.trans (hbw.mono b02.size)⟩
      rw [unhide Hacc, List.drop_eq_nil_of_le (by omega), List.drop_eq_nil_of_le (by have := unhide HL; omega)]
end Go.Proofs.Ythmmplmppchfmaa

namespace Go.Proofs.Ythmmplmppchfmaa
open Go.RowKit Go.Sort

theorem cellsP_ofP (p : PV) : cellsP p (.slice none 0 0) = (ofP p).cells := by cases p <;> rfl
theorem rowP_V {w : World} {ao : Option Addr} {l : List PV} (h : RowV w ao (l.map ofP)) : RowP w ao l := fun j hj => by
  obtain ⟨b, off, e, hb, hc⟩ := h j (by simpa using hj)
  refine ⟨b, off, none, 0, e, hb, fun c v hv => hc c v ?_⟩
  rw [cellsP_ofP] at hv
  simpa using hv
theorem r3sameG_true (G : GV) (R R' : R7) (w : World) (h : IsG w G R) (h' : IsG w G R') (hl : G.len ≤ 1048576) :
    Calls Try.prog 73 #[R.val, R'.val] w fun e w' => e = .returned (.bool true) ∧ Below w.heap.size w w' := by
  cases G with
  | pl p =>
    obtain rfl : R = ofP p := h
    obtain rfl : R' = ofP p := h'
    have := r3same_plain p p none none 0 0 w
    rw [decide_eq_true rfl, ← ofP_val] at this
    exact this
  | set l =>
    obtain ⟨ao, c, rfl, hr, _⟩ := h
    obtain ⟨ao', c', rfl, hr', _⟩ := h'
    have := r3same_set l l ao ao' c c' w hl (rowP_V hr) (rowP_V hr')
    rw [decide_eq_true rfl] at this
    exact this
theorem r3same_zero (w : World) : Calls Try.prog 73 #[zero7.val, zero7.val] w fun e w' => e = .returned (.bool true) ∧ Below w.heap.size w w' := r3same_flat _ _ _ _ _ _ _ _ _ _ w

end Go.Proofs.Ythmmplmppchfmaa

namespace Go.Proofs.Ythmmplmppchfmaa
open Go.RowKit Go.Sort

def dropE (es : List E4) (u : U2) : List E4 := es.filter fun e => decide (e4u e ≠ u)
theorem infoEntG : (Try.prog.info? 40).map (fun i => (i.zero, i.size, i.bytes)) = some (some (.agg #[.string ⟨#[]⟩, .string ⟨#[]⟩, .slice none 0 0, .slice none 0 0]), 4, 80) := by kernel_rfl
theorem dropE_snoc (es : List E4) (u : U2) (j : Nat) (hj : j < es.length) : dropE (es.take (j + 1)) u = dropE (es.take j) u ++ (if e4u es[j] = u then [] else [es[j]]) := by
  unfold dropE
  rw [List.take_succ_eq_append_getElem hj, List.filter_append, List.filter_cons]
  by_cases h : e4u es[j] = u <;> simp [h]
theorem dropE_len (es : List E4) (u : U2) (j : Nat) : (dropE (es.take j) u).length ≤ j := by
  have h1 := List.length_filter_le (fun e => decide (e4u e ≠ u)) (es.take j)
  rw [List.length_take] at h1
  unfold dropE
  omega
theorem cellsE_one (e : E4) : ∀ v ∈ e.cells, v.oneCell' = true := fun v hv => by
  simp only [E4.cells, List.mem_cons, List.not_mem_nil, or_false] at hv
  rcases hv with rfl | rfl | rfl | rfl <;> rfl
theorem newsE_row (w : World) (r : E4) (n : Nat) (hn : n = w.heap.size) : ∀ j u, r.cells[j]? = some u → (w.alloc (.cells #[.string r.t, .string r.i, .slice r.po r.pl r.pc, .slice r.ao r.al r.ac] 40)).cell? ((⟨n, 0, none⟩ : Addr).add j) = some u := by
  intro j u hj
  rw [Addr.add_lit, Nat.zero_add, World.cell?_alloc_at _ _ _ _ hn]
  simpa [E4.cells] using hj

set_option maxHeartbeats 4000000 in
set_option maxRecDepth 1000000 in
theorem r8drop_any (es : List E4) (ao : Option Addr) (cap : Nat) (u : U2) (w : World) (hr : RowG w ao 4 (es.map E4.cells)) (hl : es.length ≤ 1000000) :
    Calls Try.prog 32 #[.slice ao es.length cap, u.val] w fun x w' => Below w.heap.size w w' ∧ ∃ v, x = .returned v ∧ w'.ownsRow w.heap.size 40 4 v (dropE es u).length ((dropE es u).map E4.cells).flatten := by
  obtain ⟨i0, hi, hz0, hz1, hz2⟩ := info_parts infoEntG
  have b1 := below1 w (.cells #[.string u.t, .string u.i] 28)
  unfold U2.val
  go_enter Try.func32, Try.ntmps32
  go_wp2
  generalize hw1 : w.alloc _ = w1 at *
  have z1 : w1.heap.size = w.heap.size + 1 := by rw [← hw1]; simp
  have A1 : AtE2 w1 w.heap.size 0 u := by rw [← hw1]; exact ⟨by simp, by simp⟩
  clear hw1
  go_loopw [5, 6] (fun uv iv wr => ∃ i : Nat, iv = .int .i64 i ∧ i ≤ es.length ∧ Below w1.heap.size w1 wr ∧ wr.ownsRow w1.heap.size 40 4 uv (dropE (es.take i) u).length ((dropE (es.take i) u).map E4.cells).flatten) (fun _ iv _ => es.length - (intOf iv).toNat)
  case atStart => exact ⟨0, by go_num, Nat.zero_le _, Below.refl _ _, World.ownsRow_nil _ _ _ _⟩
  case round =>
    obtain ⟨j, rfl, hj, hbw, hown⟩ := hrel
    by_cases hlt : j < es.length
    · have i1 : (j : Int) < (es.length : Int) := by omega
      have k0 : (0 : Int) ≤ (j : Int) := by omega
      have b0 : Below w.heap.size w wr := b1.trans (hbw.mono b1.size)
      have HS := hide (dropE_snoc es u j hlt)
      have hdl := dropE_len es u j
      obtain ⟨b, off, rfl, hb, hcx⟩ := rowG_at hr b0 hlt
      have A : AtE4 wr b (off + j * 4) es[j] := AtE4.of hcx
      obtain ⟨x, hx⟩ : ∃ x, x = es[j] := ⟨_, rfl⟩
      rw [← hx] at A HS
      clear hx hcx
      have B : AtE2 wr w.heap.size 0 u := A1.below hbw (by omega)
      have hbz : b < wr.heap.size := by have := b0.size; omega
      obtain ⟨a0, a1, a2, a3⟩ := A.up
      obtain ⟨d0, d1⟩ := B.up
      simp only [Nat.zero_add] at d1
      have Hown := hide hown
      clear hown
      have NQ := binNeqUid (e4u x) u
      unfold e4u at NQ
      simp only at NQ
      generalize hz : (!decide ((⟨x.t, x.i⟩ : U2) = u)) = z at NQ
      have HZ := hide hz
      clear hz
      go_wp2_with fail
      refine wp_region_quiet_below (by kernel_rfl) (by kernel_rfl) ?_
      repeat (quiet_step (fail))
      refine wpQuiet_nil ?_
      intro _ hw'
      obtain ⟨⟨dq, osq⟩, hw''⟩ := hw'
      subst hw''
      have b7 : Below wr.heap.size wr (grow (redrawn wr dq) osq) := below_regrown wr dq osq
      generalize grow (redrawn wr dq) osq = w7 at *
      have b17 : Below w1.heap.size w1 w7 := hbw.trans (b7.mono hbw.size)
      have A7 := A.below b7 hbz
      clear a0 a1 a2 a3 d0 d1 A B
      have hclen : ((dropE (es.take j) u).map E4.cells).flatten.length = (dropE (es.take j) u).length * 4 := (unhide Hown).1
      cases z
      · have hu : e4u x = u := by
          have := unhide HZ
          unfold e4u
          simpa using this
        have HS2 := unhide HS
        rw [if_pos hu, List.append_nil] at HS2
        have HS3 := hide HS2
        clear HS2 HS A7 hclen
        go_wp2
        go_roundw
        case rel =>
          refine ⟨j + 1, by go_num, by omega, b17, ?_⟩
          rw [unhide HS3]
          exact own_below (unhide Hown) b7
        case measure =>
          simp only [intOf]
          omega
      · have hu : ¬ e4u x = u := by
          have := unhide HZ
          unfold e4u
          simpa using this
        have HS2 := unhide HS
        rw [if_neg hu] at HS2
        have HS3 := hide HS2
        clear HS2 HS
        have Hown7 := hide (own_below (unhide Hown) b7)
        obtain ⟨a0, a1, a2, a3⟩ := A7
        go_wp2_with (at_builtin; refine wpList_append_own _ rfl _ _ 25 rfl w1.heap.size 40 i0 _ 4 80 Try.underlying25 hi hz0 hz1 hz2 rfl (by decide) _ _ _ rfl ((unhide Hown7).alloc _) ⟨w7.heap.size, 0, none⟩ 1 1 x.cells rfl rfl ?dA ?eA ?fA ?gA ?hA ?_)
        case dA => exact newsE_row w7 x _ rfl
        case eA => exact cellsE_one x
        case fA => unfold maxLen; omega
        case gA => omega
        case hA => have := b17.size; simp; omega
        intro v2 w11 hown11 hg11 _
        have b1a := b17.trans ((below1 w7 (.cells #[.string x.t, .string x.i, .slice x.po x.pl x.pc, .slice x.ao x.al x.ac] 40)).mono b17.size)
        have b1b : Below w1.heap.size w1 w11 := b1a.grown hg11 b1a.size (fun k hk => ((unhide Hown7).lt k hk).1)
        have Hown11 := hide hown11
        clear a0 a1 a2 a3 hown11 hg11 b1a hclen
        go_wp2
        go_roundw
        case rel =>
          refine ⟨j + 1, by go_num, by omega, b1b, ?_⟩
          have e := unhide HS3
          rw [e, List.length_append, List.map_append, List.flatten_append]
          have := unhide Hown11
          rw [z1]
          simpa using this
        case measure =>
          simp only [intOf]
          omega
    · have i1 : ¬ (j : Int) < (es.length : Int) := by omega
      obtain rfl : j = es.length := by omega
      rw [List.take_length] at hown
      go_wp2
      go_ret
      exact ⟨b1.trans (hbw.mono b1.size), _, rfl, own_mono hown b1.size⟩
end Go.Proofs.Ythmmplmppchfmaa

namespace Go.Proofs.Ythmmplmppchfmaa
open Go.RowKit Go.Sort

/-- A slice of entities. -/
def RowPost2 (w : World) (ps : List EntP) (x : Ending) (w' : World) : Prop :=
  Below w.heap.size w w' ∧ ∃ (ao : Option Addr) (cap : Nat) (es : List E4), x = .returned (.slice ao es.length cap) ∧ RowG w' ao 4 (es.map E4.cells) ∧ AllEnt w' (fun _ => True) es ps ∧ es.length ≤ cap ∧ (ao = none → es.length = 0 ∧ cap = 0)
theorem allEnt_dropped {w : World} {P : Nat → Prop} {es : List E4} {ps : List EntP} (h : AllEnt w P es ps) (u : U2) : AllEnt w P (dropE es u) (dropP ps u) :=
  rel2_filter (R := IsEnt w P) _ _ (fun a b hab => by
    have : e4u a = b.u := hab.u
    rw [this]) h
theorem ownE_none {w : World} {B : Nat} {T : TypeId} {z : Nat} {ao : Option Addr} {n c m : Nat} {xs : List Value} (h : w.ownsRow B T z (.slice ao n c) m xs) : ao = none → m = 0 ∧ c = 0 := by
  rcases h.2 with ⟨hv, h0⟩ | ⟨g, cap, cur, hv, _, _, hc, _⟩
  · cases hv
    exact fun _ => ⟨h0, rfl⟩
  · cases hv
    intro h
    cases h
theorem ownE_at {w : World} {B : Nat} {T : TypeId} {z : Nat} {ao : Option Addr} {n c m : Nat} {xs : List Value} (h : w.ownsRow B T z (.slice ao n c) m xs) : ∀ ad, ao = some ad → ad.spot = none ∧ ad.off = 0 ∧ (∀ j, (ad.add j).block < w.heap.size) ∧ ∀ j u, xs[j]? = some u → w.cell? (ad.add j) = some u := by
  intro ad e
  subst e
  rcases h.2 with ⟨hv, _⟩ | ⟨g, cap, cur, hv, hB, hg, _⟩
  · cases hv
  · cases hv
    exact ⟨rfl, rfl, fun j => (by rw [Addr.add_lit]; exact (Array.getElem?_eq_some_iff.1 hg).1), h.cells (g := g) rfl⟩
theorem ownE_slice {w : World} {B : Nat} {T : TypeId} {z : Nat} {v : Value} {m : Nat} {xs : List Value} (h : w.ownsRow B T z v m xs) : ∃ ao c, v = .slice ao m c ∧ m ≤ c := by
  rcases h.2 with ⟨hv, h0⟩ | ⟨g, cap, cur, hv, _, _, hc, _⟩
  · subst h0
    exact ⟨none, 0, hv, Nat.le_refl _⟩
  · exact ⟨_, _, hv, hc⟩
/-- A row cut from below: its cells. -/
theorem cut_at {ao : Option Addr} {cap k n z : Nat} {w : World} {l : List (List Value)} (hn : ∀ c ∈ l, c.length = z) (hat : ∀ ad, ao = some ad → ad.spot = none ∧ ad.off = 0 ∧ (∀ j, (ad.add j).block < w.heap.size) ∧ ∀ j u, l.flatten[j]? = some u → w.cell? (ad.add j) = some u) (hl : l.length = n) (hnc : n ≤ cap) (hk : k ≤ n) :
    ∀ ad, (if cap = k then ao else ao.map (·.add (k * z))) = some ad → ∀ j u, (l.drop k).flatten[j]? = some u → w.cell? (ad.add j) = some u := by
  intro ad e j u hu
  by_cases hck : cap = k
  · have : l.drop k = [] := List.drop_eq_nil_of_le (by omega)
    rw [this] at hu
    simp at hu
  · rw [if_neg hck] at e
    cases ao with
    | none => cases e
    | some a0 =>
      simp only [Option.map_some, Option.some.injEq] at e
      subst e
      obtain ⟨h1, h2, h3, h4⟩ := hat a0 rfl
      have hf : l.flatten[k * z + j]? = some u := by
        conv => lhs; rw [← List.take_append_drop k l, List.flatten_append]
        have hlen : (l.take k).flatten.length = k * z := by
          rw [flatG_len (n := z) (l.take k) (fun c hc => hn c (List.mem_of_mem_take hc)), List.length_take, Nat.min_eq_left (by omega)]
        rw [List.getElem?_append_right (by omega), hlen, Nat.add_sub_cancel_left]
        exact hu
      have := h4 _ u hf
      obtain ⟨b0, o0, s0⟩ := a0
      have h1 : s0 = none := h1
      subst h1
      rw [Addr.add_lit] at this ⊢
      rw [Addr.add_lit, Nat.add_assoc]
      exact this
theorem take_flat {k : Nat} {l : List (List Value)} (j : Nat) (u : Value) (hu : (l.take k).flatten[j]? = some u) : l.flatten[j]? = some u := by
  conv => lhs; rw [← List.take_append_drop k l, List.flatten_append]
  rw [List.getElem?_append_left (List.getElem?_eq_some_iff.1 hu).1]
  exact hu

set_option maxHeartbeats 1000000 in
set_option maxRecDepth 1000000 in
theorem r8put_any (es : List E4) (ps : List EntP) (ao : Option Addr) (cap : Nat) (e : E4) (p : EntP) (w : World) (hr : RowG w ao 4 (es.map E4.cells)) (hA : AllEnt w (fun _ => True) es ps) (he : IsEnt w (fun _ => True) e p) (hri : RisingP ps) (hl : ps.length ≤ 1000000) :
    Calls Try.prog 20 #[.slice ao es.length cap, e.val] w fun x w' => RowPost2 w (putP ps p) x w' := by
  obtain ⟨i0, hi, hz0, hz1, hz2⟩ := info_parts infoEntG
  have b1 := below1 w (.cells #[.string e.t, .string e.i, .slice e.po e.pl e.pc, .slice e.ao e.al e.ac] 40)
  have z1 := size1 w (.cells #[.string e.t, .string e.i, .slice e.po e.pl e.pc, .slice e.ao e.al e.ac] 40)
  have A1 : AtE4 (w.alloc (.cells #[.string e.t, .string e.i, .slice e.po e.pl e.pc, .slice e.ao e.al e.ac] 40)) w.heap.size 0 e := ⟨by simp, by simp, by simp, by simp⟩
  have hel := hA.1
  have DR := r8drop_any es ao cap (e4u e) _ (hr.below b1) (by omega)
  have hue : e4u e = p.u := he.u
  have HPD := hide (fun k => put_of_drop (p := p) (k := k) hri)
  have hAd := hA.below b1
  have HAD := hide (show AllEnt _ (fun _ => True) (dropE es (e4u e)) (dropP ps p.u) by rw [hue]; exact allEnt_dropped hAd p.u)
  have HRD := hide (rising_drop hri p.u)
  have hdl : (dropE es (e4u e)).length ≤ 1000000 := by
    have := dropE_len es (e4u e) es.length
    rw [List.take_length] at this
    omega
  have HE := hide he
  have HU := hide hue
  have HEL := hide hel
  clear hr hA he hri hAd hel hue
  unfold U2.val e4u at DR
  simp only at DR
  unfold E4.val
  go_enter Try.func20, Try.ntmps20
  go_wp2_with fail
  generalize w.alloc _ = w1 at *
  refine DR.mono ?_
  clear DR
  rintro x w2 ⟨b2, v, rfl, hown⟩
  have hown : w2.ownsRow w1.heap.size 40 4 v (dropE es (e4u e)).length ((dropE es (e4u e)).map E4.cells).flatten := hown
  have b02 := b1.trans (b2.mono b1.size)
  have hD := (unhide HAD).below b2
  obtain ⟨ds, hds⟩ : ∃ ds, ds = dropE es (e4u e) := ⟨_, rfl⟩
  obtain ⟨qs, hqs⟩ : ∃ qs, qs = dropP ps p.u := ⟨_, rfl⟩
  rw [← hds] at hown hdl hD
  rw [← hqs] at hD
  have HPD2 : Hid (∀ k, k ≤ qs.length → (∀ j (h : j < qs.length), j < k → lessU qs[j].u p.u = true) → (∀ j (h : j < qs.length), k ≤ j → lessU qs[j].u p.u = false) → qs.take k ++ p :: qs.drop k = putP ps p) := hide (by subst hqs; exact unhide HPD)
  have HRQ : Hid (RisingP qs) := hide (by rw [hqs]; exact unhide HRD)
  clear HAD HPD HRD hds hqs
  obtain ⟨do', dc, rfl, hdc⟩ := ownE_slice hown
  have A2 : AtE4 w2 w.heap.size 0 e := A1.below b2 (by omega)
  have hw2 : w.heap.size < w2.heap.size := by have := b2.size; omega
  have hqd := hD.1
  have HL := hide (fun j (h : j < ds.length) (h' : j < qs.length) => (hD.2 j h h').u)
  have hdq : qs.length = ds.length := hqd.symm
  have HQ := hide hdq
  have HD := hide hD
  have Hown := hide hown
  have HB2 := hide b2
  have z12 : w1.heap.size ≤ w2.heap.size := b2.size
  clear hD hown A1 hqd hdq
  go_wp2_with fail
  go_loopw [5] (fun kv wk => ∃ k : Nat, kv = .int .i64 k ∧ k ≤ ds.length ∧ Below w2.heap.size w2 wk ∧ ∀ i (h : i < ds.length), i < k → lessU (e4u ds[i]) (e4u e) = true) (fun kv _ => ds.length - (intOf kv).toNat)
  case atStart => exact ⟨0, by go_num, Nat.zero_le _, Below.refl _ _, fun i _ h => absurd h (Nat.not_lt_zero _)⟩
  case round =>
    obtain ⟨k, rfl, hk, hbk, hlow⟩ := hrel
    have Hlow := hide hlow
    clear hlow
    have c0 : (0 : Int) ≤ (k : Int) := by omega
    have Ae := A2.below hbk hw2
    by_cases hkS : k < ds.length
    · have i2 : (k : Int) < (ds.length : Int) := by omega
      obtain ⟨ao2, cap2, e2, hrow, _, _⟩ := rowG_own (lenE ds) (by simpa using own_below (unhide Hown) hbk)
      simp only [List.length_map] at e2
      cases e2
      obtain ⟨g, og, rfl, hg, hcx⟩ := rowG_at hrow (Below.refl _ _) hkS
      have Ak : AtE4 wr g (og + k * 4) ds[k] := AtE4.of hcx
      have LE := fun w => r3lessUid_any ds[k].t.data.toList ds[k].i.data.toList e.t.data.toList e.i.data.toList w
      obtain ⟨x, hx⟩ : ∃ x, x = ds[k] := ⟨_, rfl⟩
      rw [← hx] at LE Ak
      rw [ba_of, ba_of, ba_of, ba_of] at LE
      have HX := hide hx
      clear hx hcx hrow
      have HLL : Hid (lessP (.uid x.t.data.toList x.i.data.toList) (.uid e.t.data.toList e.i.data.toList) = lessU (e4u x) (e4u e)) := hide rfl
      generalize lessP (.uid x.t.data.toList x.i.data.toList) (.uid e.t.data.toList e.i.data.toList) = y at *
      have cS := fun d os => Calls.regrown_of (w := wr) (d := d) (os := os) (LE (grow (redrawn wr d) os))
      obtain ⟨a0, a1, a2, a3⟩ := Ak.up
      obtain ⟨d0, d1, d2, d3⟩ := Ae.up
      simp only [Nat.zero_add] at d1 d2 d3
      clear LE Ak
      go_wp2_with fail
      refine wp_region_quiet_below (by kernel_rfl) (by kernel_rfl) ?_
      repeat (quiet_step (exact cS _ _))
      refine wpQuiet_nil ?_
      intro _ hw'
      obtain ⟨⟨dq, osq⟩, hw''⟩ := hw'
      subst hw''
      have b7 : Below wr.heap.size wr (grow (redrawn wr dq) osq) := below_regrown wr dq osq
      generalize grow (redrawn wr dq) osq = w7 at *
      have b27 : Below w2.heap.size w2 w7 := hbk.trans (b7.mono hbk.size)
      clear a0 a1 a2 a3 d0 d1 d2 d3 cS Ae
      cases y
      · have hown7 := own_below (unhide Hown) b27
        have hclen : ((ds.map E4.cells).flatten).length = ds.length * 4 := hown7.1
        have Hnone := hide (ownE_none hown7)
        have Hat := hide (ownE_at hown7)
        have Hhi : Hid (∀ j (h : j < ds.length), k ≤ j → lessU (e4u ds[j]) (e4u e) = false) := hide ?HI
        rotate_left
        case HI =>
          intro j h hj
          have hh : lessU (e4u ds[k]) (e4u e) = false := by rw [← unhide HX]; exact (unhide HLL).symm
          by_cases hjk : j = k
          · subst hjk
            exact hh
          · have hq := unhide HQ
            have h1 := List.pairwise_iff_getElem.1 (unhide HRQ) k j (by rw [List.length_map]; omega) (by rw [List.length_map]; omega) (by omega)
            rw [List.getElem_map, List.getElem_map] at h1
            rw [← unhide HL k hkS (by omega), ← unhide HL j h (by omega)] at h1
            cases h2 : lessU (e4u ds[j]) (e4u e)
            · rfl
            · have h3 := sto_lessU.trans _ _ _ h1 h2
              have hh : lessU ⟨ds[k].t, ds[k].i⟩ (e4u e) = false := hh
              rw [hh] at h3
              cases h3
        have hs1 := run_cutE_h (some ⟨g, og, none⟩) ds.length dc k (by omega)
        obtain ⟨ao', hao', hs2⟩ := run_cutE_l (some ⟨g, og, none⟩) ds.length dc k (by omega)
        have Hao := hide hao'
        clear hao' hown7
        have A7 := A2.below b27 hw2
        have hwz : w.heap.size < w7.heap.size := by have := b27.size; omega
        have htl : ((ds.take k).map E4.cells).flatten.length = k * 4 := by rw [flatG_len (n := 4) _ (lenE _), List.length_map, List.length_take, Nat.min_eq_left (by omega)]
        have hdl2 : ((ds.drop k).map E4.cells).flatten.length = (ds.length - k) * 4 := by rw [flatG_len (n := 4) _ (lenE _), List.length_map, List.length_drop]
        obtain ⟨a0, a1, a2, a3⟩ := A7
        go_wp2_with (at_builtin; refine wpList_append_row _ rfl _ _ 25 rfl w7.heap.size 40 i0 _ 4 80 Try.underlying25 hi hz0 hz1 hz2 rfl (by decide) _ _ _ rfl (World.ownsRow_nil _ _ _ _) _ _ _ (((ds.take k).map E4.cells).flatten) rfl ?nA1 ?lA1 ?wA1 ?oA1 ?mA1 ?yA1 ?bA1 ?_)
        case nA1 => intro h; have := unhide Hnone h; omega
        case lA1 => exact htl
        case wA1 =>
          intro ad e jj u hu
          refine (unhide Hat ad e).2.2.2 jj u (take_flat (k := k) jj u ?_)
          rw [← List.map_take]
          exact hu
        case oA1 => exact oneE _
        case mA1 => unfold maxLen; omega
        case yA1 => omega
        case bA1 => exact Nat.le_refl _
        intro v1 w9 hown9 hg9
        have b89 : Below w7.heap.size w7 w9 := (Below.refl _ w7).grown hg9 (Nat.le_refl _) (fun k hk => by cases hk)
        have Hown9 := hide hown9
        clear a0 a1 a2 a3 hown9 hg9
        obtain ⟨a0, a1, a2, a3⟩ := (A2.below b27 hw2).below b89 hwz
        simp only [Nat.zero_add] at a1 a2 a3
        go_wp2_with (at_builtin; refine wpList_append_own _ rfl _ _ 25 rfl w7.heap.size 40 i0 _ 4 80 Try.underlying25 hi hz0 hz1 hz2 rfl (by decide) _ _ _ rfl ((unhide Hown9).alloc _) ⟨w9.heap.size, 0, none⟩ 1 1 e.cells rfl rfl ?dA1 ?eA1 ?fA1 ?gA1 ?hA1 ?_)
        case dA1 => exact newsE_row w9 e _ rfl
        case eA1 => exact cellsE_one e
        case fA1 => unfold maxLen; omega
        case gA1 => omega
        case hA1 => have := b89.size; simp; omega
        intro v2 w11 hown11 hg11 _
        have b8a := b89.trans ((below1 w9 (.cells #[.string e.t, .string e.i, .slice e.po e.pl e.pc, .slice e.ao e.al e.ac] 40)).mono b89.size)
        have b8b : Below w7.heap.size w7 w11 := b8a.grown hg11 b8a.size (fun k hk => ((unhide Hown9).lt k hk).1)
        have Hat11 := hide (fun ad (e : some ⟨g, og, none⟩ = some ad) => show ad.spot = none ∧ ad.off = 0 ∧ (∀ j, (ad.add j).block < w11.heap.size) ∧ ∀ j u, ((ds.map E4.cells).flatten)[j]? = some u → w11.cell? (ad.add j) = some u from ⟨(unhide Hat ad e).1, (unhide Hat ad e).2.1, fun j => Nat.lt_of_lt_of_le ((unhide Hat ad e).2.2.1 j) b8b.size, fun jj u hu => (b8b.cell (p := ad.add jj) ((unhide Hat ad e).2.2.1 jj)).trans ((unhide Hat ad e).2.2.2 jj u hu)⟩)
        have Hown11 := hide hown11
        clear a0 a1 a2 a3 hown11 hg11 b8a
        obtain ⟨ao2, cp2, rfl, _⟩ := ownE_slice (unhide Hown11)
        go_wp2_with (at_builtin; refine wpList_append_row _ rfl _ _ 25 rfl w7.heap.size 40 i0 _ 4 80 Try.underlying25 hi hz0 hz1 hz2 rfl (by decide) _ _ _ rfl (unhide Hown11) _ _ _ (((ds.drop k).map E4.cells).flatten) rfl ?pA1 ?qA1 ?rA1 ?sA1 ?tA1 ?uA1 ?vA1 ?_)
        case pA1 =>
          intro h
          have h2 := unhide Hao
          rw [h] at h2
          by_cases hck : dc = k
          · omega
          · rw [if_neg hck] at h2
            have h3 := unhide Hnone (by
              cases hdo : ((some ⟨g, og, none⟩) : Option Addr) with
              | none => rfl
              | some a => rw [hdo] at h2; cases h2)
            omega
        case qA1 => exact hdl2
        case rA1 =>
          intro ad e jj u hu
          rw [List.map_drop] at hu
          exact cut_at (lenE ds) (unhide Hat11) (List.length_map _) hdc (by omega) ad ((unhide Hao).symm.trans e) jj u hu
        case sA1 => exact oneE _
        case tA1 => unfold maxLen; omega
        case uA1 => omega
        case vA1 => exact b8b.size
        intro v3 w12 hown12 hg12
        have b8c : Below w7.heap.size w7 w12 := b8b.grown hg12 b8b.size (fun k hk => ((unhide Hown11).lt k hk).1)
        have Hown12 := hide hown12
        clear hown12 hg12
        go_wp2
        go_ret
        have b2c : Below w2.heap.size w2 w12 := b27.trans (b8c.mono b27.size)
        have b0c : Below w.heap.size w w12 := b02.trans (b2c.mono b02.size)
        have hll : ((ds.take k ++ e :: ds.drop k).map E4.cells).length = k + 1 + (ds.length - k) := by
          rw [List.length_map, List.length_append, List.length_cons, List.length_take, List.length_drop]
          omega
        have hfl : ((ds.take k ++ e :: ds.drop k).map E4.cells).flatten = ((ds.take k).map E4.cells).flatten ++ e.cells ++ ((ds.drop k).map E4.cells).flatten := by
          simp
        have ho : w12.ownsRow w7.heap.size 40 4 v3 ((ds.take k ++ e :: ds.drop k).map E4.cells).length ((ds.take k ++ e :: ds.drop k).map E4.cells).flatten := by
          rw [hll, hfl]
          have := unhide Hown12
          simpa using this
        obtain ⟨ro, rc, rfl, hrr, hrc, _⟩ := rowG_own (lenE _) ho
        have hpe : qs.take k ++ p :: qs.drop k = putP ps p := by
          have hq := unhide HQ
          refine unhide HPD2 k (by omega) (fun j h hj => ?_) (fun j h hj => ?_)
          · have h1 := unhide Hlow j (by omega) hj
            have h2 : e4u (ds[j]'(by omega)) = qs[j].u := unhide HL j (by omega) h
            rw [h2, unhide HU] at h1
            exact h1
          · have h1 := unhide Hhi j (by omega) hj
            have h2 : e4u (ds[j]'(by omega)) = qs[j].u := unhide HL j (by omega) h
            rw [h2, unhide HU] at h1
            exact h1
        have hnil := ownE_none ho
        rw [List.length_map] at hrc hnil
        refine ⟨b0c, ro, rc, ds.take k ++ e :: ds.drop k, ?_, hrr, ?_, hrc, hnil⟩
        · rw [List.length_map]
          rfl
        · rw [← hpe]
          have hD := (unhide HD).below b2c
          exact allEnt_append (allEnt_take hD k) (rel2_cons (R := IsEnt w12 fun _ => True).2 ⟨(unhide HE).below b0c, allEnt_drop hD k⟩)
      · go_wp2
        go_roundw
        case rel =>
          refine ⟨k + 1, by go_num, by omega, b27, fun i h hik => ?_⟩
          by_cases hik' : i < k
          · exact unhide Hlow i h hik'
          · obtain rfl : i = k := by omega
            rw [← unhide HX]
            exact (unhide HLL).symm
        case measure =>
          simp only [intOf]
          omega
    · have hd : decide ((k : Int) < (ds.length : Int)) = false := decide_eq_false (by omega)
      go_wp2_with fail
      refine wp_region_quiet_below (by kernel_rfl) (by kernel_rfl) ?_
      repeat (go_big_quiet_step (fail))
      refine wpQuiet_nil ?_
      intro _ hw'
      obtain ⟨⟨dq, osq⟩, hw''⟩ := hw'
      subst hw''
      have b7 : Below wr.heap.size wr (grow (redrawn wr dq) osq) := below_regrown wr dq osq
      generalize grow (redrawn wr dq) osq = w7 at *
      have b27 : Below w2.heap.size w2 w7 := hbk.trans (b7.mono hbk.size)
      clear hd
      have hown7 := own_below (unhide Hown) b27
      have hclen : ((ds.map E4.cells).flatten).length = ds.length * 4 := hown7.1
      have Hnone := hide (ownE_none hown7)
      have Hat := hide (ownE_at hown7)
      have Hhi : Hid (∀ j (h : j < ds.length), k ≤ j → lessU (e4u ds[j]) (e4u e) = false) := hide ?HI
      rotate_left
      case HI =>
        exact fun j h hj => absurd h (by omega)
      have hs1 := run_cutE_h do' ds.length dc k (by omega)
      obtain ⟨ao', hao', hs2⟩ := run_cutE_l do' ds.length dc k (by omega)
      have Hao := hide hao'
      clear hao' hown7
      have A7 := A2.below b27 hw2
      have hwz : w.heap.size < w7.heap.size := by have := b27.size; omega
      have htl : ((ds.take k).map E4.cells).flatten.length = k * 4 := by rw [flatG_len (n := 4) _ (lenE _), List.length_map, List.length_take, Nat.min_eq_left (by omega)]
      have hdl2 : ((ds.drop k).map E4.cells).flatten.length = (ds.length - k) * 4 := by rw [flatG_len (n := 4) _ (lenE _), List.length_map, List.length_drop]
      obtain ⟨a0, a1, a2, a3⟩ := A7
      go_wp2_with (at_builtin; refine wpList_append_row _ rfl _ _ 25 rfl w7.heap.size 40 i0 _ 4 80 Try.underlying25 hi hz0 hz1 hz2 rfl (by decide) _ _ _ rfl (World.ownsRow_nil _ _ _ _) _ _ _ (((ds.take k).map E4.cells).flatten) rfl ?nA2 ?lA2 ?wA2 ?oA2 ?mA2 ?yA2 ?bA2 ?_)
      case nA2 => intro h; have := unhide Hnone h; omega
      case lA2 => exact htl
      case wA2 =>
        intro ad e jj u hu
        refine (unhide Hat ad e).2.2.2 jj u (take_flat (k := k) jj u ?_)
        rw [← List.map_take]
        exact hu
      case oA2 => exact oneE _
      case mA2 => unfold maxLen; omega
      case yA2 => omega
      case bA2 => exact Nat.le_refl _
      intro v1 w9 hown9 hg9
      have b89 : Below w7.heap.size w7 w9 := (Below.refl _ w7).grown hg9 (Nat.le_refl _) (fun k hk => by cases hk)
      have Hown9 := hide hown9
      clear a0 a1 a2 a3 hown9 hg9
      obtain ⟨a0, a1, a2, a3⟩ := (A2.below b27 hw2).below b89 hwz
      simp only [Nat.zero_add] at a1 a2 a3
      go_wp2_with (at_builtin; refine wpList_append_own _ rfl _ _ 25 rfl w7.heap.size 40 i0 _ 4 80 Try.underlying25 hi hz0 hz1 hz2 rfl (by decide) _ _ _ rfl ((unhide Hown9).alloc _) ⟨w9.heap.size, 0, none⟩ 1 1 e.cells rfl rfl ?dA2 ?eA2 ?fA2 ?gA2 ?hA2 ?_)
      case dA2 => exact newsE_row w9 e _ rfl
      case eA2 => exact cellsE_one e
      case fA2 => unfold maxLen; omega
      case gA2 => omega
      case hA2 => have := b89.size; simp; omega
      intro v2 w11 hown11 hg11 _
      have b8a := b89.trans ((below1 w9 (.cells #[.string e.t, .string e.i, .slice e.po e.pl e.pc, .slice e.ao e.al e.ac] 40)).mono b89.size)
      have b8b : Below w7.heap.size w7 w11 := b8a.grown hg11 b8a.size (fun k hk => ((unhide Hown9).lt k hk).1)
      have Hat11 := hide (fun ad (e : do' = some ad) => show ad.spot = none ∧ ad.off = 0 ∧ (∀ j, (ad.add j).block < w11.heap.size) ∧ ∀ j u, ((ds.map E4.cells).flatten)[j]? = some u → w11.cell? (ad.add j) = some u from ⟨(unhide Hat ad e).1, (unhide Hat ad e).2.1, fun j => Nat.lt_of_lt_of_le ((unhide Hat ad e).2.2.1 j) b8b.size, fun jj u hu => (b8b.cell (p := ad.add jj) ((unhide Hat ad e).2.2.1 jj)).trans ((unhide Hat ad e).2.2.2 jj u hu)⟩)
      have Hown11 := hide hown11
      clear a0 a1 a2 a3 hown11 hg11 b8a
      obtain ⟨ao2, cp2, rfl, _⟩ := ownE_slice (unhide Hown11)
      go_wp2_with (at_builtin; refine wpList_append_row _ rfl _ _ 25 rfl w7.heap.size 40 i0 _ 4 80 Try.underlying25 hi hz0 hz1 hz2 rfl (by decide) _ _ _ rfl (unhide Hown11) _ _ _ (((ds.drop k).map E4.cells).flatten) rfl ?pA2 ?qA2 ?rA2 ?sA2 ?tA2 ?uA2 ?vA2 ?_)
      case pA2 =>
        intro h
        have h2 := unhide Hao
        rw [h] at h2
        by_cases hck : dc = k
        · omega
        · rw [if_neg hck] at h2
          have h3 := unhide Hnone (by
            cases hdo : (do' : Option Addr) with
            | none => rfl
            | some a => rw [hdo] at h2; cases h2)
          omega
      case qA2 => exact hdl2
      case rA2 =>
        intro ad e jj u hu
        rw [List.map_drop] at hu
        exact cut_at (lenE ds) (unhide Hat11) (List.length_map _) hdc (by omega) ad ((unhide Hao).symm.trans e) jj u hu
      case sA2 => exact oneE _
      case tA2 => unfold maxLen; omega
      case uA2 => omega
      case vA2 => exact b8b.size
      intro v3 w12 hown12 hg12
      have b8c : Below w7.heap.size w7 w12 := b8b.grown hg12 b8b.size (fun k hk => ((unhide Hown11).lt k hk).1)
      have Hown12 := hide hown12
      clear hown12 hg12
      go_wp2
      go_ret
      have b2c : Below w2.heap.size w2 w12 := b27.trans (b8c.mono b27.size)
      have b0c : Below w.heap.size w w12 := b02.trans (b2c.mono b02.size)
      have hll : ((ds.take k ++ e :: ds.drop k).map E4.cells).length = k + 1 + (ds.length - k) := by
        rw [List.length_map, List.length_append, List.length_cons, List.length_take, List.length_drop]
        omega
      have hfl : ((ds.take k ++ e :: ds.drop k).map E4.cells).flatten = ((ds.take k).map E4.cells).flatten ++ e.cells ++ ((ds.drop k).map E4.cells).flatten := by
        simp
      have ho : w12.ownsRow w7.heap.size 40 4 v3 ((ds.take k ++ e :: ds.drop k).map E4.cells).length ((ds.take k ++ e :: ds.drop k).map E4.cells).flatten := by
        rw [hll, hfl]
        have := unhide Hown12
        simpa using this
      obtain ⟨ro, rc, rfl, hrr, hrc, _⟩ := rowG_own (lenE _) ho
      have hpe : qs.take k ++ p :: qs.drop k = putP ps p := by
        have hq := unhide HQ
        refine unhide HPD2 k (by omega) (fun j h hj => ?_) (fun j h hj => ?_)
        · have h1 := unhide Hlow j (by omega) hj
          have h2 : e4u (ds[j]'(by omega)) = qs[j].u := unhide HL j (by omega) h
          rw [h2, unhide HU] at h1
          exact h1
        · have h1 := unhide Hhi j (by omega) hj
          have h2 : e4u (ds[j]'(by omega)) = qs[j].u := unhide HL j (by omega) h
          rw [h2, unhide HU] at h1
          exact h1
      have hnil := ownE_none ho
      rw [List.length_map] at hrc hnil
      refine ⟨b0c, ro, rc, ds.take k ++ e :: ds.drop k, ?_, hrr, ?_, hrc, hnil⟩
      · rw [List.length_map]
        rfl
      · rw [← hpe]
        have hD := (unhide HD).below b2c
        exact allEnt_append (allEnt_take hD k) (rel2_cons (R := IsEnt w12 fun _ => True).2 ⟨(unhide HE).below b0c, allEnt_drop hD k⟩)
end Go.Proofs.Ythmmplmppchfmaa
