/-
  chancelref9.has: what it returns.
  chancelref9.put: what it returns.
  chancelref8.Find: what it returns.
  chancelref9.Above: plain; Find's parents.
-/
import Derived.Test.YtpenhajbihlnjaaGreatMpHL
import Derived.Test.YtpenhajbihlnjaaGreatGEU
import Derived.Test.YtpenhajbihlnjaaGreatGdAE
import Derived.Test.YtpenhajbihlnjaaGreatEcGB
import Derived.Test.YtpenhajbihlnjaaGreatEoMq
namespace Go.Proofs.YtpenhajbihlnjaaGreat
open Go.RowKit Go.Sort

set_option maxHeartbeats 2000000 in
set_option maxRecDepth 1000000 in
theorem r9has_any (l : List U2) (ao : Option Addr) (c : Nat) (u : U2) (w : World) (hl : l.length ≤ 1048576) (hr : RowG w ao 2 (l.map U2.cells)) :
    Calls Tryz.prog 13 #[.slice ao l.length c, u.val] w fun x w' => x = .returned (.bool (decide (u ∈ l))) ∧ Below w.heap.size w w' := by
  have b1 := belowA w (.cells #[.string u.t, .string u.i] 28)
  have z1 := sizeA w (.cells #[.string u.t, .string u.i] 28)
  have A1 : AtE2 (w.alloc (.cells #[.string u.t, .string u.i] 28)) w.heap.size 0 u := ⟨by simp, by simp⟩
  unfold U2.val
  go_enter Tryz.func13, Tryz.ntmps13
  go_wp2
  generalize w.alloc _ = w1 at *
  go_loopw [5] (fun iv wr => ∃ i : Nat, iv = .int .i64 i ∧ i ≤ l.length ∧ Below w1.heap.size w1 wr ∧ u ∉ l.take i) (fun iv _ => l.length - (intOf iv).toNat)
  case atStart => exact ⟨0, by go_num, Nat.zero_le _, Below.refl _ _, by simp⟩
  case round =>
    obtain ⟨j, rfl, hj, hbw, hno⟩ := hrel
    have b0 : Below w.heap.size w wr := b1.trans (hbw.mono b1.size)
    have k0 : (0 : Int) ≤ (j : Int) := by omega
    by_cases hlt : j < l.length
    · have i1 : (j : Int) < (l.length : Int) := by omega
      obtain ⟨b, off, rfl, hb, hcx⟩ := rowG_at hr b0 hlt
      have A : AtE2 wr b (off + j * 2) l[j] := AtE2.of hcx
      have HN := hide hno
      obtain ⟨x, hx⟩ : ∃ x, x = l[j] := ⟨_, rfl⟩
      rw [← hx] at A
      have HX := hide hx
      clear hx hcx hno
      have B : AtE2 wr w.heap.size 0 u := A1.below hbw (by omega)
      obtain ⟨a0, a1⟩ := A.up
      obtain ⟨d0, d1⟩ := B.up
      simp only [Nat.zero_add] at d1
      have NQ := binEqlUid x u
      generalize hz : decide (x = u) = z at NQ
      have HZ := hide hz
      clear hz
      go_wp2_with fail
      refine wp_region_quiet_below (by kernel_rfl) (by kernel_rfl) ?_
      repeat (quiet_step (fail))
      refine wpQuiet_nil ?_
      intro _ hw'
      obtain ⟨⟨dq, osq⟩, hw''⟩ := hw'
      subst hw''
      have b7 : Below wr.heap.size wr (grow (redrawn wr dq) osq) := below_regrown wr dq osq
      generalize grow (redrawn wr dq) osq = w7 at *
      have b17 : Below w1.heap.size w1 w7 := hbw.trans (b7.mono hbw.size)
      clear a0 a1 d0 d1 A B NQ
      cases z
      · have hu : ¬ x = u := by simpa using unhide HZ
        go_wp2
        go_roundw
        case rel =>
          refine ⟨j + 1, by go_num, by omega, b17, ?_⟩
          rw [List.take_succ_eq_append_getElem hlt, ← unhide HX, List.mem_append]
          rintro (h | h)
          · exact unhide HN h
          · exact hu (List.mem_singleton.1 h).symm
        case measure =>
          simp only [intOf]
          omega
      · have hu : x = u := by simpa using unhide HZ
        have hmem : decide (u ∈ l) = true := by
          rw [decide_eq_true_eq, ← hu, unhide HX]
          exact List.getElem_mem hlt
        have HH := hide hmem
        clear hmem
        go_wp2
        go_ret
        exact ⟨by rw [unhide HH]; rfl, b1.trans (b17.mono b1.size)⟩
    · have i1 : ¬ (j : Int) < (l.length : Int) := by omega
      obtain rfl : j = l.length := by omega
      rw [List.take_length] at hno
      have HH := hide (decide_eq_false hno)
      clear hno
      go_wp2
      go_ret
      exact ⟨by rw [unhide HH]; rfl, b0⟩
end Go.Proofs.YtpenhajbihlnjaaGreat

namespace Go.Proofs.YtpenhajbihlnjaaGreat
open Go.RowKit Go.Sort

/-- u at its place, once. -/
def PutsU (l : List U2) (u : U2) (l' : List U2) : Prop := (u ∈ l ∧ l' = l) ∨ (u ∉ l ∧ ∃ k, k ≤ l.length ∧ l' = l.take k ++ u :: l.drop k ∧ (∀ i (h : i < l.length), i < k → lessU l[i] u = true) ∧ ∀ (h : k < l.length), lessU l[k] u = false)
theorem PutsU.mem {l l' : List U2} {u : U2} (h : PutsU l u l') (x : U2) : x ∈ l' ↔ x = u ∨ x ∈ l := by
  rcases h with ⟨h1, rfl⟩ | ⟨_, k, _, rfl, _⟩
  · constructor
    · exact .inr
    · rintro (rfl | h)
      · exact h1
      · exact h
  · rw [List.mem_append, List.mem_cons]
    conv => rhs; rw [← List.take_append_drop k l, List.mem_append]
    constructor
    · rintro (h | h | h)
      · exact .inr (.inl h)
      · exact .inl h
      · exact .inr (.inr h)
    · rintro (h | h | h)
      · exact .inr (.inl h)
      · exact .inl h
      · exact .inr (.inr h)
theorem PutsU.len {l l' : List U2} {u : U2} (h : PutsU l u l') : l'.length ≤ l.length + 1 ∧ l.length ≤ l'.length := by
  rcases h with ⟨_, rfl⟩ | ⟨_, k, hk, rfl, _⟩
  · exact ⟨by omega, Nat.le_refl _⟩
  · rw [List.length_append, List.length_cons, List.length_take, List.length_drop]
    omega

set_option maxHeartbeats 4000000 in
set_option maxRecDepth 1000000 in
theorem r9put_any (l : List U2) (B : Nat) (v : Value) (u : U2) (w : World) (hB : B ≤ w.heap.size) (hl : l.length ≤ 1000000) (ho : w.ownsRow B 28 2 v l.length (l.map U2.cells).flatten) :
    Calls Tryz.prog 24 #[v, u.val] w fun x w' => Below w.heap.size w w' ∧ ∃ v' l', x = .returned v' ∧ PutsU l u l' ∧ w'.ownsRow B 28 2 v' l'.length (l'.map U2.cells).flatten := by
  obtain ⟨i0, hi, hz0, hz1, hz2⟩ := info_parts infoUidM
  have b1 := belowA w (.cells #[.string u.t, .string u.i] 28)
  have z1 := sizeA w (.cells #[.string u.t, .string u.i] 28)
  have A1 : AtE2 (w.alloc (.cells #[.string u.t, .string u.i] 28)) w.heap.size 0 u := ⟨by simp, by simp⟩
  have Hown := hide (own_below ho b1)
  obtain ⟨do', dc, rfl, hdc⟩ := ownE_slice ho
  obtain ⟨ao3, cap3, e3, hrow, _, _⟩ := rowG_own (lenU l) (by simpa using unhide Hown)
  simp only [List.length_map] at e3
  cases e3
  have HA := r9has_any l do' dc u _ (by omega) hrow
  unfold U2.val at HA
  clear ho hrow
  unfold U2.val
  go_enter Tryz.func24, Tryz.ntmps24
  obtain ⟨u0, u1⟩ := id A1
  simp only [Nat.zero_add] at u1
  go_wp2_with fail
  generalize w.alloc _ = w1 at *
  refine HA.mono ?_
  clear HA u0 u1
  rintro x w2 ⟨rfl, b2⟩
  have b02 := b1.trans (b2.mono b1.size)
  have hw2 : w.heap.size < w2.heap.size := by have := b2.size; omega
  have A2 : AtE2 w2 w.heap.size 0 u := A1.below b2 (by omega)
  have Hown : Hid (w2.ownsRow B 28 2 (.slice do' l.length dc) l.length (l.map U2.cells).flatten) := hide (own_below (unhide Hown) b2)
  clear A1
  by_cases hin : u ∈ l
  · have HIN := hide hin
    rw [decide_eq_true hin]
    clear hin
    go_wp2
    go_ret
    exact ⟨b02, _, l, rfl, .inl ⟨unhide HIN, rfl⟩, unhide Hown⟩
  · have HNO := hide hin
    rw [decide_eq_false hin]
    clear hin
    go_wp2_with fail
    go_loopw [5] (fun kv wk => ∃ k : Nat, kv = .int .i64 k ∧ k ≤ l.length ∧ Below w2.heap.size w2 wk ∧ ∀ i (h : i < l.length), i < k → lessU l[i] u = true) (fun kv _ => l.length - (intOf kv).toNat)
    case atStart => exact ⟨0, by go_num, Nat.zero_le _, Below.refl _ _, fun i _ h => absurd h (Nat.not_lt_zero _)⟩
    case round =>
      rename World => wr
      obtain ⟨k, rfl, hk, hbk, hlow⟩ := hrel
      have Hlow := hide hlow
      clear hlow
      have c0 : (0 : Int) ≤ (k : Int) := by omega
      have Ae := A2.below hbk hw2
      by_cases hkS : k < l.length
      · have i2 : (k : Int) < (l.length : Int) := by omega
        obtain ⟨ao2, cap2, e2, hrow, _, _⟩ := rowG_own (lenU l) (by simpa using own_below (unhide Hown) hbk)
        simp only [List.length_map] at e2
        cases e2
        obtain ⟨g, og, rfl, hg, hcx⟩ := rowG_at hrow (Below.refl _ _) hkS
        have Ak : AtE2 wr g (og + k * 2) l[k] := AtE2.of hcx
        have LE := fun w => r3lessUid_any l[k].t.data.toList l[k].i.data.toList u.t.data.toList u.i.data.toList w
        obtain ⟨x, hx⟩ : ∃ x, x = l[k] := ⟨_, rfl⟩
        rw [← hx] at LE Ak
        rw [ba_of, ba_of, ba_of, ba_of] at LE
        have HX := hide hx
        clear hx hcx hrow
        have HLL : Hid (lessP (.uid x.t.data.toList x.i.data.toList) (.uid u.t.data.toList u.i.data.toList) = lessU x u) := hide rfl
        generalize lessP (.uid x.t.data.toList x.i.data.toList) (.uid u.t.data.toList u.i.data.toList) = y at *
        have cS := fun d os => Calls.regrown_of (w := wr) (d := d) (os := os) (LE (grow (redrawn wr d) os))
        obtain ⟨a0, a1⟩ := Ak.up
        obtain ⟨d0, d1⟩ := Ae.up
        simp only [Nat.zero_add] at d1
        clear LE Ak
        go_wp2_with fail
        refine wp_region_quiet_below (by kernel_rfl) (by kernel_rfl) ?_
        repeat (quiet_step (exact cS _ _))
        refine wpQuiet_nil ?_
        intro _ hw'
        obtain ⟨⟨dq, osq⟩, hw''⟩ := hw'
        subst hw''
        have b7 : Below wr.heap.size wr (grow (redrawn wr dq) osq) := below_regrown wr dq osq
        generalize grow (redrawn wr dq) osq = w7 at *
        have b27 : Below w2.heap.size w2 w7 := hbk.trans (b7.mono hbk.size)
        clear a0 a1 d0 d1 cS Ae
        cases y
        · have HK : Hid (lessU l[k] u = false) := hide (by rw [← unhide HX]; exact (unhide HLL).symm)
          have hown7 := own_below (unhide Hown) b27
          have hclen : ((l.map U2.cells).flatten).length = l.length * 2 := hown7.1
          have Hnone := hide (ownE_none hown7)
          have Hat := hide (ownE_at hown7)
          have Hhi : Hid (∀ (h : k < l.length), lessU l[k] u = false) := hide (fun h => unhide HK)
          have hs1 := run_cutU_h (some ⟨g, og, none⟩) l.length dc k (by omega)
          obtain ⟨ao', hao', hs2⟩ := run_cutU_l (some ⟨g, og, none⟩) l.length dc k (by omega)
          have Hao := hide hao'
          clear hao' hown7
          have A7 := A2.below b27 hw2
          have hwz : w.heap.size < w7.heap.size := by have := b27.size; omega
          have htl : ((l.take k).map U2.cells).flatten.length = k * 2 := by rw [flatG_len (n := 2) _ (lenU _), List.length_map, List.length_take, Nat.min_eq_left (by omega)]
          have hdl2 : ((l.drop k).map U2.cells).flatten.length = (l.length - k) * 2 := by rw [flatG_len (n := 2) _ (lenU _), List.length_map, List.length_drop]
          obtain ⟨a0, a1⟩ := A7
          go_wp2_with (at_builtin; refine wpList_append_row _ rfl _ _ 29 rfl w7.heap.size 28 i0 _ 2 32 Tryz.underlying29 hi hz0 hz1 hz2 rfl (by decide) _ _ _ rfl (World.ownsRow_nil _ _ _ _) _ _ _ (((l.take k).map U2.cells).flatten) rfl ?nA1 ?lA1 ?wA1 ?oA1 ?mA1 ?yA1 ?bA1 ?_)
          case nA1 => intro h; have := unhide Hnone h; omega
          case lA1 => exact htl
          case wA1 =>
            intro ad e jj v hv
            refine (unhide Hat ad e).2.2.2 jj v (take_flat (k := k) jj v ?_)
            rw [← List.map_take]
            exact hv
          case oA1 => exact oneU _
          case mA1 => unfold maxLen; omega
          case yA1 => omega
          case bA1 => exact Nat.le_refl _
          intro v1 w9 hown9 hg9
          have b89 : Below w7.heap.size w7 w9 := (Below.refl _ w7).grown hg9 (Nat.le_refl _) (fun k hk => by cases hk)
          have Hown9 := hide hown9
          clear a0 a1 hown9 hg9
          obtain ⟨a0, a1⟩ := (A2.below b27 hw2).below b89 hwz
          simp only [Nat.zero_add] at a1
          go_wp2_with (at_builtin; refine wpList_append_own _ rfl _ _ 29 rfl w7.heap.size 28 i0 _ 2 32 Tryz.underlying29 hi hz0 hz1 hz2 rfl (by decide) _ _ _ rfl ((unhide Hown9).alloc _) ⟨w9.heap.size, 0, none⟩ 1 1 u.cells rfl rfl ?dA1 ?eA1 ?fA1 ?gA1 ?hA1 ?_)
          case dA1 => exact newsU_rowM w9 u _ rfl
          case eA1 => exact cellsU_oneM u
          case fA1 => unfold maxLen; omega
          case gA1 => omega
          case hA1 => have := b89.size; simp; omega
          intro v2 w11 hown11 hg11 _
          have b8a := b89.trans ((belowA w9 (.cells #[.string u.t, .string u.i] 28)).mono b89.size)
          have b8b : Below w7.heap.size w7 w11 := b8a.grown hg11 b8a.size (fun k hk => ((unhide Hown9).lt k hk).1)
          have Hat11 := hide (fun ad (e : (some ⟨g, og, none⟩) = some ad) => show ad.spot = none ∧ ad.off = 0 ∧ (∀ j, (ad.add j).block < w11.heap.size) ∧ ∀ j v, ((l.map U2.cells).flatten)[j]? = some v → w11.cell? (ad.add j) = some v from ⟨(unhide Hat ad e).1, (unhide Hat ad e).2.1, fun j => Nat.lt_of_lt_of_le ((unhide Hat ad e).2.2.1 j) b8b.size, fun jj v hv => (b8b.cell (p := ad.add jj) ((unhide Hat ad e).2.2.1 jj)).trans ((unhide Hat ad e).2.2.2 jj v hv)⟩)
          have Hown11 := hide hown11
          clear a0 a1 hown11 hg11 b8a
          obtain ⟨ao2, cp2, rfl, _⟩ := ownE_slice (unhide Hown11)
          go_wp2_with (at_builtin; refine wpList_append_row _ rfl _ _ 29 rfl w7.heap.size 28 i0 _ 2 32 Tryz.underlying29 hi hz0 hz1 hz2 rfl (by decide) _ _ _ rfl (unhide Hown11) _ _ _ (((l.drop k).map U2.cells).flatten) rfl ?pA1 ?qA1 ?rA1 ?sA1 ?tA1 ?uA1 ?vA1 ?_)
          case pA1 =>
            intro h
            have h2 := unhide Hao
            rw [h] at h2
            by_cases hck : dc = k
            · omega
            · rw [if_neg hck] at h2
              have h3 := unhide Hnone (by
                cases hdo : ((some ⟨g, og, none⟩) : Option Addr) with
                | none => rfl
                | some a => rw [hdo] at h2; cases h2)
              omega
          case qA1 => exact hdl2
          case rA1 =>
            intro ad e jj v hv
            rw [List.map_drop] at hv
            exact cut_at (lenU l) (unhide Hat11) (List.length_map _) hdc (by omega) ad ((unhide Hao).symm.trans e) jj v hv
          case sA1 => exact oneU _
          case tA1 => unfold maxLen; omega
          case uA1 => omega
          case vA1 => exact b8b.size
          intro v3 w12 hown12 hg12
          have b8c : Below w7.heap.size w7 w12 := b8b.grown hg12 b8b.size (fun k hk => ((unhide Hown11).lt k hk).1)
          have Hown12 := hide hown12
          clear hown12 hg12
          go_wp2
          go_ret
          have b2c : Below w2.heap.size w2 w12 := b27.trans (b8c.mono b27.size)
          have b0c : Below w.heap.size w w12 := b02.trans (b2c.mono b02.size)
          have hll : (l.take k ++ u :: l.drop k).length = k + 1 + (l.length - k) := by
            rw [List.length_append, List.length_cons, List.length_take, List.length_drop]
            omega
          have hfl : ((l.take k ++ u :: l.drop k).map U2.cells).flatten = ((l.take k).map U2.cells).flatten ++ u.cells ++ ((l.drop k).map U2.cells).flatten := by
            simp
          refine ⟨b0c, v3, l.take k ++ u :: l.drop k, rfl, .inr ⟨unhide HNO, k, hk, rfl, unhide Hlow, unhide Hhi⟩, ?_⟩
          rw [hll, hfl]
          have := own_mono (base' := B) (unhide Hown12) (by have h1 := b02.size; have h2 := b27.size; omega)
          simpa using this
        · go_wp2
          go_roundw
          case rel =>
            refine ⟨k + 1, by go_num, by omega, b27, fun i h hik => ?_⟩
            by_cases hik' : i < k
            · exact unhide Hlow i h hik'
            · obtain rfl : i = k := by omega
              rw [← unhide HX]
              exact (unhide HLL).symm
          case measure =>
            simp only [intOf]
            omega
      · have hd : decide ((k : Int) < (l.length : Int)) = false := decide_eq_false (by omega)
        go_wp2_with fail
        refine wp_region_quiet_below (by kernel_rfl) (by kernel_rfl) ?_
        repeat (go_big_quiet_step (fail))
        refine wpQuiet_nil ?_
        intro _ hw'
        obtain ⟨⟨dq, osq⟩, hw''⟩ := hw'
        subst hw''
        have b7 : Below wr.heap.size wr (grow (redrawn wr dq) osq) := below_regrown wr dq osq
        generalize grow (redrawn wr dq) osq = w7 at *
        have b27 : Below w2.heap.size w2 w7 := hbk.trans (b7.mono hbk.size)
        clear hd
        have hown7 := own_below (unhide Hown) b27
        have hclen : ((l.map U2.cells).flatten).length = l.length * 2 := hown7.1
        have Hnone := hide (ownE_none hown7)
        have Hat := hide (ownE_at hown7)
        have Hhi : Hid (∀ (h : k < l.length), lessU l[k] u = false) := hide (fun h => absurd h hkS)
        have hs1 := run_cutU_h do' l.length dc k (by omega)
        obtain ⟨ao', hao', hs2⟩ := run_cutU_l do' l.length dc k (by omega)
        have Hao := hide hao'
        clear hao' hown7
        have A7 := A2.below b27 hw2
        have hwz : w.heap.size < w7.heap.size := by have := b27.size; omega
        have htl : ((l.take k).map U2.cells).flatten.length = k * 2 := by rw [flatG_len (n := 2) _ (lenU _), List.length_map, List.length_take, Nat.min_eq_left (by omega)]
        have hdl2 : ((l.drop k).map U2.cells).flatten.length = (l.length - k) * 2 := by rw [flatG_len (n := 2) _ (lenU _), List.length_map, List.length_drop]
        obtain ⟨a0, a1⟩ := A7
        go_wp2_with (at_builtin; refine wpList_append_row _ rfl _ _ 29 rfl w7.heap.size 28 i0 _ 2 32 Tryz.underlying29 hi hz0 hz1 hz2 rfl (by decide) _ _ _ rfl (World.ownsRow_nil _ _ _ _) _ _ _ (((l.take k).map U2.cells).flatten) rfl ?nA2 ?lA2 ?wA2 ?oA2 ?mA2 ?yA2 ?bA2 ?_)
        case nA2 => intro h; have := unhide Hnone h; omega
        case lA2 => exact htl
        case wA2 =>
          intro ad e jj v hv
          refine (unhide Hat ad e).2.2.2 jj v (take_flat (k := k) jj v ?_)
          rw [← List.map_take]
          exact hv
        case oA2 => exact oneU _
        case mA2 => unfold maxLen; omega
        case yA2 => omega
        case bA2 => exact Nat.le_refl _
        intro v1 w9 hown9 hg9
        have b89 : Below w7.heap.size w7 w9 := (Below.refl _ w7).grown hg9 (Nat.le_refl _) (fun k hk => by cases hk)
        have Hown9 := hide hown9
        clear a0 a1 hown9 hg9
        obtain ⟨a0, a1⟩ := (A2.below b27 hw2).below b89 hwz
        simp only [Nat.zero_add] at a1
        go_wp2_with (at_builtin; refine wpList_append_own _ rfl _ _ 29 rfl w7.heap.size 28 i0 _ 2 32 Tryz.underlying29 hi hz0 hz1 hz2 rfl (by decide) _ _ _ rfl ((unhide Hown9).alloc _) ⟨w9.heap.size, 0, none⟩ 1 1 u.cells rfl rfl ?dA2 ?eA2 ?fA2 ?gA2 ?hA2 ?_)
        case dA2 => exact newsU_rowM w9 u _ rfl
        case eA2 => exact cellsU_oneM u
        case fA2 => unfold maxLen; omega
        case gA2 => omega
        case hA2 => have := b89.size; simp; omega
        intro v2 w11 hown11 hg11 _
        have b8a := b89.trans ((belowA w9 (.cells #[.string u.t, .string u.i] 28)).mono b89.size)
        have b8b : Below w7.heap.size w7 w11 := b8a.grown hg11 b8a.size (fun k hk => ((unhide Hown9).lt k hk).1)
        have Hat11 := hide (fun ad (e : do' = some ad) => show ad.spot = none ∧ ad.off = 0 ∧ (∀ j, (ad.add j).block < w11.heap.size) ∧ ∀ j v, ((l.map U2.cells).flatten)[j]? = some v → w11.cell? (ad.add j) = some v from ⟨(unhide Hat ad e).1, (unhide Hat ad e).2.1, fun j => Nat.lt_of_lt_of_le ((unhide Hat ad e).2.2.1 j) b8b.size, fun jj v hv => (b8b.cell (p := ad.add jj) ((unhide Hat ad e).2.2.1 jj)).trans ((unhide Hat ad e).2.2.2 jj v hv)⟩)
        have Hown11 := hide hown11
        clear a0 a1 hown11 hg11 b8a
        obtain ⟨ao2, cp2, rfl, _⟩ := ownE_slice (unhide Hown11)
        go_wp2_with (at_builtin; refine wpList_append_row _ rfl _ _ 29 rfl w7.heap.size 28 i0 _ 2 32 Tryz.underlying29 hi hz0 hz1 hz2 rfl (by decide) _ _ _ rfl (unhide Hown11) _ _ _ (((l.drop k).map U2.cells).flatten) rfl ?pA2 ?qA2 ?rA2 ?sA2 ?tA2 ?uA2 ?vA2 ?_)
        case pA2 =>
          intro h
          have h2 := unhide Hao
          rw [h] at h2
          by_cases hck : dc = k
          · omega
          · rw [if_neg hck] at h2
            have h3 := unhide Hnone (by
              cases hdo : (do' : Option Addr) with
              | none => rfl
              | some a => rw [hdo] at h2; cases h2)
            omega
        case qA2 => exact hdl2
        case rA2 =>
          intro ad e jj v hv
          rw [List.map_drop] at hv
          exact cut_at (lenU l) (unhide Hat11) (List.length_map _) hdc (by omega) ad ((unhide Hao).symm.trans e) jj v hv
        case sA2 => exact oneU _
        case tA2 => unfold maxLen; omega
        case uA2 => omega
        case vA2 => exact b8b.size
        intro v3 w12 hown12 hg12
        have b8c : Below w7.heap.size w7 w12 := b8b.grown hg12 b8b.size (fun k hk => ((unhide Hown11).lt k hk).1)
        have Hown12 := hide hown12
        clear hown12 hg12
        go_wp2
        go_ret
        have b2c : Below w2.heap.size w2 w12 := b27.trans (b8c.mono b27.size)
        have b0c : Below w.heap.size w w12 := b02.trans (b2c.mono b02.size)
        have hll : (l.take k ++ u :: l.drop k).length = k + 1 + (l.length - k) := by
          rw [List.length_append, List.length_cons, List.length_take, List.length_drop]
          omega
        have hfl : ((l.take k ++ u :: l.drop k).map U2.cells).flatten = ((l.take k).map U2.cells).flatten ++ u.cells ++ ((l.drop k).map U2.cells).flatten := by
          simp
        refine ⟨b0c, v3, l.take k ++ u :: l.drop k, rfl, .inr ⟨unhide HNO, k, hk, rfl, unhide Hlow, unhide Hhi⟩, ?_⟩
        rw [hll, hfl]
        have := own_mono (base' := B) (unhide Hown12) (by have h1 := b02.size; have h2 := b27.size; omega)
        simpa using this
end Go.Proofs.YtpenhajbihlnjaaGreat

namespace Go.Proofs.YtpenhajbihlnjaaGreat
open Go.RowKit Go.Sort

theorem ev2F (w : World) (o1 o2 : Obj) : Below w.heap.size w ((w.alloc o1).alloc o2) ∧ ((w.alloc o1).alloc o2).heap.size = w.heap.size + 2 ∧ ((w.alloc o1).alloc o2).heap[w.heap.size]? = some o1 ∧ ((w.alloc o1).alloc o2).heap[w.heap.size + 1]? = some o2 := by
  have b1 := belowA w o1
  have b2 := belowA (w.alloc o1) o2
  have h2 := alloc_heap (w.alloc o1) o2
  have z1 : (w.alloc o1).heap.size = w.heap.size + 1 := by simp
  rw [z1] at h2
  exact ⟨b1.trans (b2.mono b1.size), by simp, kept_of_below b2 (alloc_heap w o1), h2⟩
theorem fdP_none {ps : List EntP} {u : U2} (h : ∀ k (hk : k < ps.length), ps[k].u ≠ u) : findP ps u = none := by
  unfold findP
  rw [List.find?_eq_none]
  intro p hp
  obtain ⟨k, hk, rfl⟩ := List.getElem_of_mem hp
  simpa using h k hk
theorem fdP_some {ps : List EntP} {u : U2} {j : Nat} (hj : j < ps.length) (hu : ps[j].u = u) (h : ∀ k (hk : k < j), (ps[k]'(by omega)).u ≠ u) : findP ps u = some ps[j] := by
  unfold findP
  rw [List.find?_eq_some_iff_getElem]
  exact ⟨by simpa using hu, j, hj, rfl, fun k hk => by simpa using h k hk⟩
set_option maxHeartbeats 4000000 in
set_option maxRecDepth 1000000 in
theorem r8find_any (es : List E4) (ps : List EntP) (lo : Option Addr) (c : Nat) (u : U2) (w : World) (hl : es.length ≤ 1048576) (hr : RowG w lo 4 (es.map E4.cells)) (hA : AllEnt w (fun _ => True) es ps) :
    Calls Tryz.prog 23 #[.slice lo es.length c, u.val] w fun x w' => Below w.heap.size w w' ∧ FindPost (findP ps u) x w' := by
  obtain ⟨b2, z2, hU, hE⟩ := ev2F w (.cells #[.string u.t, .string u.i] 28) (.cells #[.string ⟨#[]⟩, .string ⟨#[]⟩, .slice none 0 0, .slice none 0 0] 32)
  have HA := hide hA
  clear hA
  unfold U2.val
  go_enter Tryz.func23, Tryz.ntmps23
  go_upto_region 1 with fail
  generalize (w.alloc _).alloc _ = w2 at *
  go_wp2_with fail
  go_loopw [6] (fun iv wr => ∃ i : Nat, iv = .int .i64 i ∧ i ≤ es.length ∧ Below w2.heap.size w2 wr ∧ ∀ k (h : k < es.length), k < i → (⟨es[k].t, es[k].i⟩ : U2) ≠ u) (fun iv _ => es.length - (intOf iv).toNat)
  case atStart => exact ⟨0, by go_num, Nat.zero_le _, Below.refl _ _, fun k _ h => absurd h (Nat.not_lt_zero _)⟩
  case round =>
    rename World => wr
    obtain ⟨j, rfl, hj, hbw, hno⟩ := hrel
    have HN := hide hno
    clear hno
    have b0 : Below w.heap.size w wr := b2.trans (hbw.mono b2.size)
    have k0 : (0 : Int) ≤ (j : Int) := by omega
    have hUr := kept_of_below hbw hU
    have hEr := kept_of_below hbw hE
    by_cases hlt : j < es.length
    · have i1 : (j : Int) < (es.length : Int) := by omega
      obtain ⟨b, off, rfl, hb, hcx⟩ := rowG_at hr b0 hlt
      have A : AtE4 wr b (off + j * 4) es[j] := AtE4.of hcx
      have hps : j < ps.length := by rw [← (unhide HA).1]; exact hlt
      have HI := hide ((unhide HA).2 j hlt hps)
      have HNX := hide (show (⟨es[j].t, es[j].i⟩ : U2) ≠ u → ∀ k (h : k < es.length), k < j + 1 → (⟨es[k].t, es[k].i⟩ : U2) ≠ u from fun h0 k hk h2 => by
        by_cases e : k = j
        · subst e; exact h0
        · exact unhide HN k hk (by omega))
      have HFD := hide (show (⟨es[j].t, es[j].i⟩ : U2) = u → findP ps u = some ps[j] from fun h0 => fdP_some hps (by rw [← (unhide HI).u]; exact h0) (fun k hk e => unhide HN k (by omega) hk (((unhide HA).2 k (by omega) (by omega)).u.trans e)))
      obtain ⟨x, hx⟩ : ∃ x, x = es[j] := ⟨_, rfl⟩
      rw [← hx] at A HI HNX HFD
      clear hx hcx
      have u0 : wr.cell? ⟨w.heap.size, 0, none⟩ = some (.string u.t) := by rw [Lib.cell_of_heap hUr]; rfl
      have u1 : wr.cell? ⟨w.heap.size, 1, none⟩ = some (.string u.i) := by rw [Lib.cell_of_heap hUr]; rfl
      obtain ⟨a0, a1, a2, a3⟩ := A
      have r0 := cell_regrown a0
      have r1 := cell_regrown a1
      have r2 := cell_regrown u0
      have r3 := cell_regrown u1
      have NQ := binEqlUid ⟨x.t, x.i⟩ u
      simp only at NQ
      by_cases heq : (⟨x.t, x.i⟩ : U2) = u
      · rw [decide_eq_true heq] at NQ
        have HF := hide (unhide HFD heq)
        clear heq HFD HNX
        go_wp2_with fail
        refine wp_region_quiet_below (by kernel_rfl) (by kernel_rfl) ?_
        repeat (quiet_step (fail))
        refine wpQuiet_nil ?_
        intro _ hw'
        obtain ⟨⟨dq, osq⟩, hw''⟩ := hw'
        subst hw''
        have b7r := below_regrown wr dq osq
        have b7 := hbw.trans (b7r.mono hbw.size)
        have hE7 := kept_of_below b7r hEr
        generalize grow (redrawn wr dq) osq = w7 at *
        have hbl : b < wr.heap.size := by have := b0.size; omega
        have c0 := (b7r.cell (p := ⟨b, off + j * 4, none⟩) hbl).trans a0
        have c1 := (b7r.cell (p := ⟨b, off + j * 4 + 1, none⟩) hbl).trans a1
        have c2 := (b7r.cell (p := ⟨b, off + j * 4 + 2, none⟩) hbl).trans a2
        have c3 := (b7r.cell (p := ⟨b, off + j * 4 + 3, none⟩) hbl).trans a3
        have d0 : w7.cell? ⟨w.heap.size + 1, 0, none⟩ = some (.string ⟨#[]⟩) := by rw [Lib.cell_of_heap hE7]; rfl
        have d1 : w7.cell? ⟨w.heap.size + 1, 1, none⟩ = some (.string ⟨#[]⟩) := by rw [Lib.cell_of_heap hE7]; rfl
        have d2 : w7.cell? ⟨w.heap.size + 1, 2, none⟩ = some (.slice none 0 0) := by rw [Lib.cell_of_heap hE7]; rfl
        have d3 : w7.cell? ⟨w.heap.size + 1, 3, none⟩ = some (.slice none 0 0) := by rw [Lib.cell_of_heap hE7]; rfl
        have df : ∀ o, w7.frozen? ⟨w.heap.size + 1, o, none⟩ = false := fun o => Lib.frozen_of_heap hE7 o
        have b9 := b2.trans (b7.mono b2.size)
        have HS := hide ((((b9.setCell (p := ⟨w.heap.size + 1, 0, none⟩) (Nat.le_succ _) (.string x.t)).setCell (p := ⟨w.heap.size + 1, 1, none⟩) (Nat.le_succ _) (.string x.i)).setCell (p := ⟨w.heap.size + 1, 2, none⟩) (Nat.le_succ _) (.slice x.po x.pl x.pc)).setCell (p := ⟨w.heap.size + 1, 3, none⟩) (Nat.le_succ _) (.slice x.ao x.al x.ac))
        clear r0 r1 r2 r3 NQ a0 a1 a2 a3 u0 u1 hUr hEr hE7
        go_wp2
        refine bodyPost_ret (v := .tuple #[.agg #[.string x.t, .string x.i, .slice x.po x.pl x.pc, .slice x.ao x.al x.ac], .bool true]) (by simp [results, Tryz.results23, go_sem, d0, d1, d2, d3]) rfl ⟨unhide HS, ?_⟩
        rw [unhide HF]
        exact ⟨x, rfl, (unhide HI).below (unhide HS)⟩
      · rw [decide_eq_false heq] at NQ
        have HNX2 := hide (unhide HNX heq)
        clear heq HFD HNX
        go_wp2_with fail
        refine wp_region_quiet_below (by kernel_rfl) (by kernel_rfl) ?_
        repeat (quiet_step (fail))
        refine wpQuiet_nil ?_
        intro _ hw'
        obtain ⟨⟨dq, osq⟩, hw''⟩ := hw'
        subst hw''
        have b7 := hbw.trans ((below_regrown wr dq osq).mono hbw.size)
        generalize grow (redrawn wr dq) osq = w7 at *
        clear r0 r1 r2 r3 NQ a0 a1 a2 a3 u0 u1 hUr hEr
        go_wp2
        go_roundw
        case rel => exact ⟨j + 1, by go_num, by omega, b7, unhide HNX2⟩
        case measure =>
          simp only [intOf]
          omega
    · have i1 : ¬ (j : Int) < (es.length : Int) := by omega
      have HF := hide (fdP_none (ps := ps) (u := u) fun k hk e => unhide HN k (by rw [(unhide HA).1]; exact hk) (by rw [← (unhide HA).1] at hk; omega) (((unhide HA).2 k (by rw [(unhide HA).1]; exact hk) hk).u.trans e))
      have d0 : wr.cell? ⟨w.heap.size + 1, 0, none⟩ = some (.string ⟨#[]⟩) := by rw [Lib.cell_of_heap hEr]; rfl
      have d1 : wr.cell? ⟨w.heap.size + 1, 1, none⟩ = some (.string ⟨#[]⟩) := by rw [Lib.cell_of_heap hEr]; rfl
      have d2 : wr.cell? ⟨w.heap.size + 1, 2, none⟩ = some (.slice none 0 0) := by rw [Lib.cell_of_heap hEr]; rfl
      have d3 : wr.cell? ⟨w.heap.size + 1, 3, none⟩ = some (.slice none 0 0) := by rw [Lib.cell_of_heap hEr]; rfl
      have df : ∀ o, wr.frozen? ⟨w.heap.size + 1, o, none⟩ = false := fun o => Lib.frozen_of_heap hEr o
      have HS := hide ((((b0.setCell (p := ⟨w.heap.size + 1, 0, none⟩) (Nat.le_succ _) (.string ⟨#[]⟩)).setCell (p := ⟨w.heap.size + 1, 1, none⟩) (Nat.le_succ _) (.string ⟨#[]⟩)).setCell (p := ⟨w.heap.size + 1, 2, none⟩) (Nat.le_succ _) (.slice none 0 0)).setCell (p := ⟨w.heap.size + 1, 3, none⟩) (Nat.le_succ _) (.slice none 0 0))
      clear hUr hEr
      go_wp2
      refine bodyPost_ret (v := .tuple #[.agg #[.string ⟨#[]⟩, .string ⟨#[]⟩, .slice none 0 0, .slice none 0 0], .bool false]) (by simp [results, Tryz.results23, go_sem, d0, d1, d2, d3]) rfl ⟨unhide HS, ?_⟩
      rw [unhide HF]
      exact rfl
end Go.Proofs.YtpenhajbihlnjaaGreat

namespace Go.Proofs.YtpenhajbihlnjaaGreat
open Go.RowKit Go.Sort

theorem PutsU.nd {l l' : List U2} {u : U2} (h : PutsU l u l') (hn : l.Nodup) : l'.Nodup := by
  rcases h with ⟨_, rfl⟩ | ⟨h1, k, _, rfl, _⟩
  · exact hn
  · have hp : (l.take k ++ u :: l.drop k).Perm (u :: l) := by
      have := List.perm_middle (a := u) (l₁ := l.take k) (l₂ := l.drop k)
      rwa [List.take_append_drop] at this
    exact hp.nodup_iff.2 (List.nodup_cons.2 ⟨h1, hn⟩)
theorem PutsU.same {l l' : List U2} {u : U2} (h : PutsU l u l') : l' = l ∨ l'.length = l.length + 1 := by
  rcases h with ⟨_, rfl⟩ | ⟨_, k, hk, rfl, _⟩
  · exact .inl rfl
  · right
    rw [List.length_append, List.length_cons, List.length_take, List.length_drop]
    omega
/-- What has been met. -/
structure AbS (S : U2 → List U2) (u : U2) (l : List U2) : Prop where
  nd : l.Nodup
  way : ∀ x ∈ l, ∃ f ∈ S u, Way S f x
theorem AbS.put {S : U2 → List U2} {u x : U2} {l l' : List U2} (h : AbS S u l) (hp : PutsU l x l') (hx : ∃ f ∈ S u, Way S f x) : AbS S u l' :=
  ⟨hp.nd h.nd, fun y hy => by
    rcases (hp.mem y).1 hy with rfl | hy
    · exact hx
    · exact h.way y hy⟩
theorem AbS.len {S : U2 → List U2} {u : U2} {l N : List U2} (h : AbS S u l) (hN : ∀ x, ∀ v ∈ S x, v ∈ N) : l.length ≤ N.length :=
  nodup_le l N h.nd fun x hx => by
    obtain ⟨f, hf, hw⟩ := h.way x hx
    cases hw with
    | here => exact hN _ _ hf
    | step _ hx => exact hN _ _ hx
/-- How a round grows. -/
structure AbG (S : U2 → List U2) (u : U2) (l0 l : List U2) : Prop where
  st : AbS S u l
  sup : ∀ x ∈ l0, x ∈ l
  le : l0.length ≤ l.length
  eq : l.length = l0.length → l = l0
theorem AbG.start {S : U2 → List U2} {u : U2} {l : List U2} (h : AbS S u l) : AbG S u l l := ⟨h, fun _ h => h, Nat.le_refl _, fun _ => rfl⟩
theorem AbG.put {S : U2 → List U2} {u x : U2} {l0 l l' : List U2} (h : AbG S u l0 l) (hp : PutsU l x l') (hx : ∃ f ∈ S u, Way S f x) : AbG S u l0 l' where
  st := h.st.put hp hx
  sup := fun y hy => (hp.mem y).2 (.inr (h.sup y hy))
  le := Nat.le_trans h.le hp.len.2
  eq := fun e => by
    have h1 := h.le
    rcases hp.same with rfl | h2
    · exact h.eq e
    · omega
/-- Once nothing comes. -/
theorem AbS.done {S : U2 → List U2} {u : U2} {l : List U2} (h : AbS S u l) (h0 : ∀ x ∈ S u, x ∈ l) (hc : ∀ y ∈ l, ∀ x ∈ S y, x ∈ l) (x : U2) : x ∈ l ↔ ∃ f ∈ S u, Way S f x := by
  refine ⟨h.way x, ?_⟩
  rintro ⟨f, hf, hw⟩
  induction hw with
  | here => exact h0 _ hf
  | step _ hx ih => exact hc _ ih _ hx

theorem r8findS_any (es : List E4) (ps : List EntP) (lo : Option Addr) (c : Nat) (u : U2) (w : World) (hl : es.length ≤ 1048576) (hr : RowG w lo 4 (es.map E4.cells)) (hA : AllEnt w (fun _ => True) es ps) :
    Calls Tryz.prog 23 #[.slice lo es.length c, .agg #[.string u.t, .string u.i]] w fun x w' => Below w.heap.size w w' ∧ ∃ (et ei : ByteArray) (po ao : Option Addr) (pc al ac : Nat) (b : Bool), x = .returned (.tuple #[.agg #[.string et, .string ei, .slice po (upS ps u).length pc, .slice ao al ac], .bool b]) ∧ RowG w' po 2 ((upS ps u).map U2.cells) := by
  refine (r8find_any es ps lo c u w hl hr hA).mono ?_
  rintro x w' ⟨hb, h⟩
  refine ⟨hb, ?_⟩
  unfold upS
  unfold FindPost at h
  cases hf : findP ps u with
  | none =>
    rw [hf] at h
    exact ⟨_, _, _, _, _, _, _, false, h, rowG_nil _ none _⟩
  | some p =>
    rw [hf] at h
    obtain ⟨e, h1, h2⟩ := h
    exact ⟨_, _, _, _, _, _, _, true, by rw [h1, ← h2.pl]; rfl, h2.rowU⟩
end Go.Proofs.YtpenhajbihlnjaaGreat
