/-
  chancelref9.put: what it returns.
  chancelref8.Find: what it returns.
  chancelref9.Above: plain; Find's parents.
  chancelref9.Above: what it returns.
  chancelref9.In: what it returns.
-/
import Derived.Test.YthmmplmppchfmaaGdG
import Derived.Test.YthmmplmppchfmaaGdAE
import Derived.Test.YthmmplmppchfmaaMpMN
import Derived.Test.YthmmplmppchfmaaEfoP
import Derived.Test.YthmmplmppchfmaaMqPI
import Derived.Deep.RegionWith
namespace Go.Proofs.Ythmmplmppchfmaa
open Go.RowKit Go.Sort

/-- u at its place, once. -/
def PutsU (l : List U2) (u : U2) (l' : List U2) : Prop := (u ∈ l ∧ l' = l) ∨ (u ∉ l ∧ ∃ k, k ≤ l.length ∧ l' = l.take k ++ u :: l.drop k ∧ (∀ i (h : i < l.length), i < k → lessU l[i] u = true) ∧ ∀ (h : k < l.length), lessU l[k] u = false)
theorem PutsU.mem {l l' : List U2} {u : U2} (h : PutsU l u l') (x : U2) : x ∈ l' ↔ x = u ∨ x ∈ l := by
  rcases h with ⟨h1, rfl⟩ | ⟨_, k, _, rfl, _⟩
  · constructor
    · exact .inr
    · rintro (rfl | h)
      · exact h1
      · exact h
  · rw [List.mem_append, List.mem_cons]
    conv => rhs; rw [← List.take_append_drop k l, List.mem_append]
    constructor
    · rintro (h | h | h)
      · exact .inr (.inl h)
      · exact .inl h
      · exact .inr (.inr h)
    · rintro (h | h | h)
      · exact .inr (.inl h)
      · exact .inl h
      · exact .inr (.inr h)
theorem PutsU.len {l l' : List U2} {u : U2} (h : PutsU l u l') : l'.length ≤ l.length + 1 ∧ l.length ≤ l'.length := by
  rcases h with ⟨_, rfl⟩ | ⟨_, k, hk, rfl, _⟩
  · exact ⟨by omega, Nat.le_refl _⟩
  · rw [List.length_append, List.length_cons, List.length_take, List.length_drop]
    omega

set_option maxHeartbeats 4000000 in
set_option maxRecDepth 1000000 in
theorem r9put_any (l : List U2) (B : Nat) (v : Value) (u : U2) (w : World) (hB : B ≤ w.heap.size) (hl : l.length ≤ 1000000) (ho : w.ownsRow B 28 2 v l.length (l.map U2.cells).flatten) :
    Calls Try.prog 30 #[v, u.val] w fun x w' => Below w.heap.size w w' ∧ ∃ v' l', x = .returned v' ∧ PutsU l u l' ∧ w'.ownsRow B 28 2 v' l'.length (l'.map U2.cells).flatten := by
  obtain ⟨i0, hi, hz0, hz1, hz2⟩ := info_parts infoUidM
  have b1 := belowA w (.cells #[.string u.t, .string u.i] 28)
  have z1 := sizeA w (.cells #[.string u.t, .string u.i] 28)
  have A1 : AtE2 (w.alloc (.cells #[.string u.t, .string u.i] 28)) w.heap.size 0 u := ⟨by simp, by simp⟩
  have Hown := hide (own_below ho b1)
  obtain ⟨do', dc, rfl, hdc⟩ := ownE_slice ho
  obtain ⟨ao3, cap3, e3, hrow, _, _⟩ := rowG_own (lenU l) (by simpa using unhide Hown)
  simp only [List.length_map] at e3
  cases e3
  have HA := r9has_any l do' dc u _ (by omega) hrow
  unfold U2.val at HA
  clear ho hrow
  unfold U2.val
  go_enter Try.func30, Try.ntmps30
  obtain ⟨u0, u1⟩ := id A1
  simp only [Nat.zero_add] at u1
  go_wp2_with fail
  generalize w.alloc _ = w1 at *
  refine HA.mono ?_
  clear HA u0 u1
  rintro x w2 ⟨rfl, b2⟩
  have b02 := b1.trans (b2.mono b1.size)
  have hw2 : w.heap.size < w2.heap.size := by have := b2.size; omega
  have A2 : AtE2 w2 w.heap.size 0 u := A1.below b2 (by omega)
  have Hown : Hid (w2.ownsRow B 28 2 (.slice do' l.length dc) l.length (l.map U2.cells).flatten) := hide (own_below (unhide Hown) b2)
  clear A1
  by_cases hin : u ∈ l
  · have HIN := hide hin
    rw [decide_eq_true hin]
    clear hin
    go_wp2
    go_ret
    exact ⟨b02, _, l, rfl, .inl ⟨unhide HIN, rfl⟩, unhide Hown⟩
  · have HNO := hide hin
    rw [decide_eq_false hin]
    clear hin
    go_wp2_with fail
    go_loopw [5] (fun kv wk => ∃ k : Nat, kv = .int .i64 k ∧ k ≤ l.length ∧ Below w2.heap.size w2 wk ∧ ∀ i (h : i < l.length), i < k → lessU l[i] u = true) (fun kv _ => l.length - (intOf kv).toNat)
    case atStart => exact ⟨0, by go_num, Nat.zero_le _, Below.refl _ _, fun i _ h => absurd h (Nat.not_lt_zero _)⟩
    case round =>
      rename World => wr
      obtain ⟨k, rfl, hk, hbk, hlow⟩ := hrel
      have Hlow := hide hlow
      clear hlow
      have c0 : (0 : Int) ≤ (k : Int) := by omega
      have Ae := A2.below hbk hw2
      by_cases hkS : k < l.length
      · have i2 : (k : Int) < (l.length : Int) := by omega
        obtain ⟨ao2, cap2, e2, hrow, _, _⟩ := rowG_own (lenU l) (by simpa using own_below (unhide Hown) hbk)
        simp only [List.length_map] at e2
        cases e2
        obtain ⟨g, og, rfl, hg, hcx⟩ := rowG_at hrow (Below.refl _ _) hkS
        have Ak : AtE2 wr g (og + k * 2) l[k] := AtE2.of hcx
        have LE := fun w => r3lessUid_any l[k].t.data.toList l[k].i.data.toList u.t.data.toList u.i.data.toList w
        obtain ⟨x, hx⟩ : ∃ x, x = l[k] := ⟨_, rfl⟩
        rw [← hx] at LE Ak
        rw [ba_of, ba_of, ba_of, ba_of] at LE
        have HX := hide hx
        clear hx hcx hrow
        have HLL : Hid (lessP (.uid x.t.data.toList x.i.data.toList) (.uid u.t.data.toList u.i.data.toList) = lessU x u) := hide rfl
        generalize lessP (.uid x.t.data.toList x.i.data.toList) (.uid u.t.data.toList u.i.data.toList) = y at *
        have cS := fun d os => Calls.regrown_of (w := wr) (d := d) (os := os) (LE (grow (redrawn wr d) os))
        obtain ⟨a0, a1⟩ := Ak.up
        obtain ⟨d0, d1⟩ := Ae.up
        simp only [Nat.zero_add] at d1
        clear LE Ak
        go_wp2_with fail
        refine wp_region_quiet_below (by kernel_rfl) (by kernel_rfl) ?_
        repeat (quiet_step (exact cS _ _))
        refine wpQuiet_nil ?_
        intro _ hw'
        obtain ⟨⟨dq, osq⟩, hw''⟩ := hw'
        subst hw''
        have b7 : Below wr.heap.size wr (grow (redrawn wr dq) osq) := below_regrown wr dq osq
        generalize grow (redrawn wr dq) osq = w7 at *
        have b27 : Below w2.heap.size w2 w7 := hbk.trans (b7.mono hbk.size)
        clear a0 a1 d0 d1 cS Ae
        cases y
        · have HK : Hid (lessU l[k] u = false) := hide (by rw [← unhide HX]; exact (unhide HLL).symm)
          have hown7 := own_below (unhide Hown) b27
          have hclen : ((l.map U2.cells).flatten).length = l.length * 2 := hown7.1
          have Hnone := hide (ownE_none hown7)
          have Hat := hide (ownE_at hown7)
          have Hhi : Hid (∀ (h : k < l.length), lessU l[k] u = false) := hide (fun h => unhide HK)
          have hs1 := run_cutU_h (some ⟨g, og, none⟩) l.length dc k (by omega)
          obtain ⟨ao', hao', hs2⟩ := run_cutU_l (some ⟨g, og, none⟩) l.length dc k (by omega)
          have Hao := hide hao'
          clear hao' hown7
          have A7 := A2.below b27 hw2
          have hwz : w.heap.size < w7.heap.size := by have := b27.size; omega
          have htl : ((l.take k).map U2.cells).flatten.length = k * 2 := by rw [flatG_len (n := 2) _ (lenU _), List.length_map, List.length_take, Nat.min_eq_left (by omega)]
          have hdl2 : ((l.drop k).map U2.cells).flatten.length = (l.length - k) * 2 := by rw [flatG_len (n := 2) _ (lenU _), List.length_map, List.length_drop]
          obtain ⟨a0, a1⟩ := A7
          go_wp2_with (at_builtin; refine wpList_append_row _ rfl _ _ 30 rfl w7.heap.size 28 i0 _ 2 32 Try.underlying30 hi hz0 hz1 hz2 rfl (by decide) _ _ _ rfl (World.ownsRow_nil _ _ _ _) _ _ _ (((l.take k).map U2.cells).flatten) rfl ?nA1 ?lA1 ?wA1 ?oA1 ?mA1 ?yA1 ?bA1 ?_)
          case nA1 => intro h; have := unhide Hnone h; omega
          case lA1 => exact htl
          case wA1 =>
            intro ad e jj v hv
            refine (unhide Hat ad e).2.2.2 jj v (take_flat (k := k) jj v ?_)
            rw [← List.map_take]
            exact hv
          case oA1 => exact oneU _
          case mA1 => unfold maxLen; omega
          case yA1 => omega
          case bA1 => exact Nat.le_refl _
          intro v1 w9 hown9 hg9
          have b89 : Below w7.heap.size w7 w9 := (Below.refl _ w7).grown hg9 (Nat.le_refl _) (fun k hk => by cases hk)
          have Hown9 := hide hown9
          clear a0 a1 hown9 hg9
          obtain ⟨a0, a1⟩ := (A2.below b27 hw2).below b89 hwz
          simp only [Nat.zero_add] at a1
          go_wp2_with (at_builtin; refine wpList_append_own _ rfl _ _ 30 rfl w7.heap.size 28 i0 _ 2 32 Try.underlying30 hi hz0 hz1 hz2 rfl (by decide) _ _ _ rfl ((unhide Hown9).alloc _) ⟨w9.heap.size, 0, none⟩ 1 1 u.cells rfl rfl ?dA1 ?eA1 ?fA1 ?gA1 ?hA1 ?_)
          case dA1 => exact newsU_rowM w9 u _ rfl
          case eA1 => exact cellsU_oneM u
          case fA1 => unfold maxLen; omega
          case gA1 => omega
          case hA1 => have := b89.size; simp; omega
          intro v2 w11 hown11 hg11 _
          have b8a := b89.trans ((belowA w9 (.cells #[.string u.t, .string u.i] 28)).mono b89.size)
          have b8b : Below w7.heap.size w7 w11 := b8a.grown hg11 b8a.size (fun k hk => ((unhide Hown9).lt k hk).1)
          have Hat11 := hide (fun ad (e : (some ⟨g, og, none⟩) = some ad) => show ad.spot = none ∧ ad.off = 0 ∧ (∀ j, (ad.add j).block < w11.heap.size) ∧ ∀ j v, ((l.map U2.cells).flatten)[j]? = some v → w11.cell? (ad.add j) = some v from ⟨(unhide Hat ad e).1, (unhide Hat ad e).2.1, fun j => Nat.lt_of_lt_of_le ((unhide Hat ad e).2.2.1 j) b8b.size, fun jj v hv => (b8b.cell (p := ad.add jj) ((unhide Hat ad e).2.2.1 jj)).trans ((unhide Hat ad e).2.2.2 jj v hv)⟩)
          have Hown11 := hide hown11
          clear a0 a1 hown11 hg11 b8a
          obtain ⟨ao2, cp2, rfl, _⟩ := ownE_slice (unhide Hown11)
          go_wp2_with (at_builtin; refine wpList_append_row _ rfl _ _ 30 rfl w7.heap.size 28 i0 _ 2 32 Try.underlying30 hi hz0 hz1 hz2 rfl (by decide) _ _ _ rfl (unhide Hown11) _ _ _ (((l.drop k).map U2.cells).flatten) rfl ?pA1 ?qA1 ?rA1 ?sA1 ?tA1 ?uA1 ?vA1 ?_)
          case pA1 =>
            intro h
            have h2 := unhide Hao
            rw [h] at h2
            by_cases hck : dc = k
            · omega
            · rw [if_neg hck] at h2
              have h3 := unhide Hnone (by
                cases hdo : ((some ⟨g, og, none⟩) : Option Addr) with
                | none => rfl
                | some a => rw [hdo] at h2; cases h2)
              omega
          case qA1 => exact hdl2
          case rA1 =>
            intro ad e jj v hv
            rw [List.map_drop] at hv
            exact cut_at (lenU l) (unhide Hat11) (List.length_map _) hdc (by omega) ad ((unhide Hao).symm.trans e) jj v hv
          case sA1 => exact oneU _
          case tA1 => unfold maxLen; omega
          case uA1 => omega
          case vA1 => exact b8b.size
          intro v3 w12 hown12 hg12
          have b8c : Below w7.heap.size w7 w12 := b8b.grown hg12 b8b.size (fun k hk => ((unhide Hown11).lt k hk).1)
          have Hown12 := hide hown12
          clear hown12 hg12
          go_wp2
          go_ret
          have b2c : Below w2.heap.size w2 w12 := b27.trans (b8c.mono b27.size)
          have b0c : Below w.heap.size w w12 := b02.trans (b2c.mono b02.size)
          have hll : (l.take k ++ u :: l.drop k).length = k + 1 + (l.length - k) := by
            rw [List.length_append, List.length_cons, List.length_take, List.length_drop]
            omega
          have hfl : ((l.take k ++ u :: l.drop k).map U2.cells).flatten = ((l.take k).map U2.cells).flatten ++ u.cells ++ ((l.drop k).map U2.cells).flatten := by
            simp
          refine ⟨b0c, v3, l.take k ++ u :: l.drop k, rfl, .inr ⟨unhide HNO, k, hk, rfl, unhide Hlow, unhide Hhi⟩, ?_⟩
          rw [hll, hfl]
          have := own_mono (base' := B) (unhide Hown12) (by have h1 := b02.size; have h2 := b27.size; omega)
          simpa using this
        · go_wp2
          go_roundw
          case rel =>
            refine ⟨k + 1, by go_num, by omega, b27, fun i h hik => ?_⟩
            by_cases hik' : i < k
            · exact unhide Hlow i h hik'
            · obtain rfl : i = k := by omega
              rw [← unhide HX]
              exact (unhide HLL).symm
          case measure =>
            simp only [intOf]
            omega
      · have hd : decide ((k : Int) < (l.length : Int)) = false := decide_eq_false (by omega)
        go_wp2_with fail
        refine wp_region_quiet_below (by kernel_rfl) (by kernel_rfl) ?_
        repeat (go_big_quiet_step (fail))
        refine wpQuiet_nil ?_
        intro _ hw'
        obtain ⟨⟨dq, osq⟩, hw''⟩ := hw'
        subst hw''
        have b7 : Below wr.heap.size wr (grow (redrawn wr dq) osq) := below_regrown wr dq osq
        generalize grow (redrawn wr dq) osq = w7 at *
        have b27 : Below w2.heap.size w2 w7 := hbk.trans (b7.mono hbk.size)
        clear hd
        have hown7 := own_below (unhide Hown) b27
        have hclen : ((l.map U2.cells).flatten).length = l.length * 2 := hown7.1
        have Hnone := hide (ownE_none hown7)
        have Hat := hide (ownE_at hown7)
        have Hhi : Hid (∀ (h : k < l.length), lessU l[k] u = false) := hide (fun h => absurd h hkS)
        have hs1 := run_cutU_h do' l.length dc k (by omega)
        obtain ⟨ao', hao', hs2⟩ := run_cutU_l do' l.length dc k (by omega)
        have Hao := hide hao'
        clear hao' hown7
        have A7 := A2.below b27 hw2
        have hwz : w.heap.size < w7.heap.size := by have := b27.size; omega
        have htl : ((l.take k).map U2.cells).flatten.length = k * 2 := by rw [flatG_len (n := 2) _ (lenU _), List.length_map, List.length_take, Nat.min_eq_left (by omega)]
        have hdl2 : ((l.drop k).map U2.cells).flatten.length = (l.length - k) * 2 := by rw [flatG_len (n := 2) _ (lenU _), List.length_map, List.length_drop]
        obtain ⟨a0, a1⟩ := A7
        go_wp2_with (at_builtin; refine wpList_append_row _ rfl _ _ 30 rfl w7.heap.size 28 i0 _ 2 32 Try.underlying30 hi hz0 hz1 hz2 rfl (by decide) _ _ _ rfl (World.ownsRow_nil _ _ _ _) _ _ _ (((l.take k).map U2.cells).flatten) rfl ?nA2 ?lA2 ?wA2 ?oA2 ?mA2 ?yA2 ?bA2 ?_)
        case nA2 => intro h; have := unhide Hnone h; omega
        case lA2 => exact htl
        case wA2 =>
          intro ad e jj v hv
          refine (unhide Hat ad e).2.2.2 jj v (take_flat (k := k) jj v ?_)
          rw [← List.map_take]
          exact hv
        case oA2 => exact oneU _
        case mA2 => unfold maxLen; omega
        case yA2 => omega
        case bA2 => exact Nat.le_refl _
        intro v1 w9 hown9 hg9
        have b89 : Below w7.heap.size w7 w9 := (Below.refl _ w7).grown hg9 (Nat.le_refl _) (fun k hk => by cases hk)
        have Hown9 := hide hown9
        clear a0 a1 hown9 hg9
        obtain ⟨a0, a1⟩ := (A2.below b27 hw2).below b89 hwz
        simp only [Nat.zero_add] at a1
        go_wp2_with (at_builtin; refine wpList_append_own _ rfl _ _ 30 rfl w7.heap.size 28 i0 _ 2 32 Try.underlying30 hi hz0 hz1 hz2 rfl (by decide) _ _ _ rfl ((unhide Hown9).alloc _) ⟨w9.heap.size, 0, none⟩ 1 1 u.cells rfl rfl ?dA2 ?eA2 ?fA2 ?gA2 ?hA2 ?_)
        case dA2 => exact newsU_rowM w9 u _ rfl
        case eA2 => exact cellsU_oneM u
        case fA2 => unfold maxLen; omega
        case gA2 => omega
        case hA2 => have := b89.size; simp; omega
        intro v2 w11 hown11 hg11 _
        have b8a := b89.trans ((belowA w9 (.cells #[.string u.t, .string u.i] 28)).mono b89.size)
        have b8b : Below w7.heap.size w7 w11 := b8a.grown hg11 b8a.size (fun k hk => ((unhide Hown9).lt k hk).1)
        have Hat11 := hide (fun ad (e : do' = some ad) => show ad.spot = none ∧ ad.off = 0 ∧ (∀ j, (ad.add j).block < w11.heap.size) ∧ ∀ j v, ((l.map U2.cells).flatten)[j]? = some v → w11.cell? (ad.add j) = some v from ⟨(unhide Hat ad e).1, (unhide Hat ad e).2.1, fun j => Nat.lt_of_lt_of_le ((unhide Hat ad e).2.2.1 j) b8b.size, fun jj v hv => (b8b.cell (p := ad.add jj) ((unhide Hat ad e).2.2.1 jj)).trans ((unhide Hat ad e).2.2.2 jj v hv)⟩)
        have Hown11 := hide hown11
        clear a0 a1 hown11 hg11 b8a
        obtain ⟨ao2, cp2, rfl, _⟩ := ownE_slice (unhide Hown11)
        go_wp2_with (at_builtin; refine wpList_append_row _ rfl _ _ 30 rfl w7.heap.size 28 i0 _ 2 32 Try.underlying30 hi hz0 hz1 hz2 rfl (by decide) _ _ _ rfl (unhide Hown11) _ _ _ (((l.drop k).map U2.cells).flatten) rfl ?pA2 ?qA2 ?rA2 ?sA2 ?tA2 ?uA2 ?vA2 ?_)
        case pA2 =>
          intro h
          have h2 := unhide Hao
          rw [h] at h2
          by_cases hck : dc = k
          · omega
          · rw [if_neg hck] at h2
            have h3 := unhide Hnone (by
              cases hdo : (do' : Option Addr) with
              | none => rfl
              | some a => rw [hdo] at h2; cases h2)
            omega
        case qA2 => exact hdl2
        case rA2 =>
          intro ad e jj v hv
          rw [List.map_drop] at hv
          exact cut_at (lenU l) (unhide Hat11) (List.length_map _) hdc (by omega) ad ((unhide Hao).symm.trans e) jj v hv
        case sA2 => exact oneU _
        case tA2 => unfold maxLen; omega
        case uA2 => omega
        case vA2 => exact b8b.size
        intro v3 w12 hown12 hg12
        have b8c : Below w7.heap.size w7 w12 := b8b.grown hg12 b8b.size (fun k hk => ((unhide Hown11).lt k hk).1)
        have Hown12 := hide hown12
        clear hown12 hg12
        go_wp2
        go_ret
        have b2c : Below w2.heap.size w2 w12 := b27.trans (b8c.mono b27.size)
        have b0c : Below w.heap.size w w12 := b02.trans (b2c.mono b02.size)
        have hll : (l.take k ++ u :: l.drop k).length = k + 1 + (l.length - k) := by
          rw [List.length_append, List.length_cons, List.length_take, List.length_drop]
          omega
        have hfl : ((l.take k ++ u :: l.drop k).map U2.cells).flatten = ((l.take k).map U2.cells).flatten ++ u.cells ++ ((l.drop k).map U2.cells).flatten := by
          simp
        refine ⟨b0c, v3, l.take k ++ u :: l.drop k, rfl, .inr ⟨unhide HNO, k, hk, rfl, unhide Hlow, unhide Hhi⟩, ?_⟩
        rw [hll, hfl]
        have := own_mono (base' := B) (unhide Hown12) (by have h1 := b02.size; have h2 := b27.size; omega)
        simpa using this
end Go.Proofs.Ythmmplmppchfmaa

namespace Go.Proofs.Ythmmplmppchfmaa
open Go.RowKit Go.Sort

theorem ev2F (w : World) (o1 o2 : Obj) : Below w.heap.size w ((w.alloc o1).alloc o2) ∧ ((w.alloc o1).alloc o2).heap.size = w.heap.size + 2 ∧ ((w.alloc o1).alloc o2).heap[w.heap.size]? = some o1 ∧ ((w.alloc o1).alloc o2).heap[w.heap.size + 1]? = some o2 := by
  have b1 := belowA w o1
  have b2 := belowA (w.alloc o1) o2
  have h2 := alloc_heap (w.alloc o1) o2
  have z1 : (w.alloc o1).heap.size = w.heap.size + 1 := by simp
  rw [z1] at h2
  exact ⟨b1.trans (b2.mono b1.size), by simp, kept_of_below b2 (alloc_heap w o1), h2⟩
theorem fdP_none {ps : List EntP} {u : U2} (h : ∀ k (hk : k < ps.length), ps[k].u ≠ u) : findP ps u = none := by
  unfold findP
  rw [List.find?_eq_none]
  intro p hp
  obtain ⟨k, hk, rfl⟩ := List.getElem_of_mem hp
  simpa using h k hk
theorem fdP_some {ps : List EntP} {u : U2} {j : Nat} (hj : j < ps.length) (hu : ps[j].u = u) (h : ∀ k (hk : k < j), (ps[k]'(by omega)).u ≠ u) : findP ps u = some ps[j] := by
  unfold findP
  rw [List.find?_eq_some_iff_getElem]
  exact ⟨by simpa using hu, j, hj, rfl, fun k hk => by simpa using h k hk⟩
set_option maxHeartbeats 4000000 in
set_option maxRecDepth 1000000 in
theorem r8find_any (es : List E4) (ps : List EntP) (lo : Option Addr) (c : Nat) (u : U2) (w : World) (hl : es.length ≤ 1048576) (hr : RowG w lo 4 (es.map E4.cells)) (hA : AllEnt w (fun _ => True) es ps) :
    Calls Try.prog 29 #[.slice lo es.length c, u.val] w fun x w' => Below w.heap.size w w' ∧ FindPost (findP ps u) x w' := by
  obtain ⟨b2, z2, hU, hE⟩ := ev2F w (.cells #[.string u.t, .string u.i] 28) (.cells #[.string ⟨#[]⟩, .string ⟨#[]⟩, .slice none 0 0, .slice none 0 0] 40)
  have HA := hide hA
  clear hA
  unfold U2.val
  go_enter Try.func29, Try.ntmps29
  go_upto_region 1 with fail
  generalize (w.alloc _).alloc _ = w2 at *
  go_wp2_with fail
  go_loopw [6] (fun iv wr => ∃ i : Nat, iv = .int .i64 i ∧ i ≤ es.length ∧ Below w2.heap.size w2 wr ∧ ∀ k (h : k < es.length), k < i → (⟨es[k].t, es[k].i⟩ : U2) ≠ u) (fun iv _ => es.length - (intOf iv).toNat)
  case atStart => exact ⟨0, by go_num, Nat.zero_le _, Below.refl _ _, fun k _ h => absurd h (Nat.not_lt_zero _)⟩
  case round =>
    rename World => wr
    obtain ⟨j, rfl, hj, hbw, hno⟩ := hrel
    have HN := hide hno
    clear hno
    have b0 : Below w.heap.size w wr := b2.trans (hbw.mono b2.size)
    have k0 : (0 : Int) ≤ (j : Int) := by omega
    have hUr := kept_of_below hbw hU
    have hEr := kept_of_below hbw hE
    by_cases hlt : j < es.length
    · have i1 : (j : Int) < (es.length : Int) := by omega
      obtain ⟨b, off, rfl, hb, hcx⟩ := rowG_at hr b0 hlt
      have A : AtE4 wr b (off + j * 4) es[j] := AtE4.of hcx
      have hps : j < ps.length := by rw [← (unhide HA).1]; exact hlt
      have HI := hide ((unhide HA).2 j hlt hps)
      have HNX := hide (show (⟨es[j].t, es[j].i⟩ : U2) ≠ u → ∀ k (h : k < es.length), k < j + 1 → (⟨es[k].t, es[k].i⟩ : U2) ≠ u from fun h0 k hk h2 => by
        by_cases e : k = j
        · subst e; exact h0
        · exact unhide HN k hk (by omega))
      have HFD := hide (show (⟨es[j].t, es[j].i⟩ : U2) = u → findP ps u = some ps[j] from fun h0 => fdP_some hps (by rw [← (unhide HI).u]; exact h0) (fun k hk e => unhide HN k (by omega) hk (((unhide HA).2 k (by omega) (by omega)).u.trans e)))
      obtain ⟨x, hx⟩ : ∃ x, x = es[j] := ⟨_, rfl⟩
      rw [← hx] at A HI HNX HFD
      clear hx hcx
      have u0 : wr.cell? ⟨w.heap.size, 0, none⟩ = some (.string u.t) := by rw [Lib.cell_of_heap hUr]; rfl
      have u1 : wr.cell? ⟨w.heap.size, 1, none⟩ = some (.string u.i) := by rw [Lib.cell_of_heap hUr]; rfl
      obtain ⟨a0, a1, a2, a3⟩ := A
      have r0 := cell_regrown a0
      have r1 := cell_regrown a1
      have r2 := cell_regrown u0
      have r3 := cell_regrown u1
      have NQ := binEqlUid ⟨x.t, x.i⟩ u
      simp only at NQ
      by_cases heq : (⟨x.t, x.i⟩ : U2) = u
      · rw [decide_eq_true heq] at NQ
        have HF := hide (unhide HFD heq)
        clear heq HFD HNX
        go_wp2_with fail
        refine wp_region_quiet_below (by kernel_rfl) (by kernel_rfl) ?_
        repeat (quiet_step (fail))
        refine wpQuiet_nil ?_
        intro _ hw'
        obtain ⟨⟨dq, osq⟩, hw''⟩ := hw'
        subst hw''
        have b7r := below_regrown wr dq osq
        have b7 := hbw.trans (b7r.mono hbw.size)
        have hE7 := kept_of_below b7r hEr
        generalize grow (redrawn wr dq) osq = w7 at *
        have hbl : b < wr.heap.size := by have := b0.size; omega
        have c0 := (b7r.cell (p := ⟨b, off + j * 4, none⟩) hbl).trans a0
        have c1 := (b7r.cell (p := ⟨b, off + j * 4 + 1, none⟩) hbl).trans a1
        have c2 := (b7r.cell (p := ⟨b, off + j * 4 + 2, none⟩) hbl).trans a2
        have c3 := (b7r.cell (p := ⟨b, off + j * 4 + 3, none⟩) hbl).trans a3
        have d0 : w7.cell? ⟨w.heap.size + 1, 0, none⟩ = some (.string ⟨#[]⟩) := by rw [Lib.cell_of_heap hE7]; rfl
        have d1 : w7.cell? ⟨w.heap.size + 1, 1, none⟩ = some (.string ⟨#[]⟩) := by rw [Lib.cell_of_heap hE7]; rfl
        have d2 : w7.cell? ⟨w.heap.size + 1, 2, none⟩ = some (.slice none 0 0) := by rw [Lib.cell_of_heap hE7]; rfl
        have d3 : w7.cell? ⟨w.heap.size + 1, 3, none⟩ = some (.slice none 0 0) := by rw [Lib.cell_of_heap hE7]; rfl
        have df : ∀ o, w7.frozen? ⟨w.heap.size + 1, o, none⟩ = false := fun o => Lib.frozen_of_heap hE7 o
        have b9 := b2.trans (b7.mono b2.size)
        have HS := hide ((((b9.setCell (p := ⟨w.heap.size + 1, 0, none⟩) (Nat.le_succ _) (.string x.t)).setCell (p := ⟨w.heap.size + 1, 1, none⟩) (Nat.le_succ _) (.string x.i)).setCell (p := ⟨w.heap.size + 1, 2, none⟩) (Nat.le_succ _) (.slice x.po x.pl x.pc)).setCell (p := ⟨w.heap.size + 1, 3, none⟩) (Nat.le_succ _) (.slice x.ao x.al x.ac))
        clear r0 r1 r2 r3 NQ a0 a1 a2 a3 u0 u1 hUr hEr hE7
        go_wp2
        refine bodyPost_ret (v := .tuple #[.agg #[.string x.t, .string x.i, .slice x.po x.pl x.pc, .slice x.ao x.al x.ac], .bool true]) (by simp [results, Try.results29, go_sem, d0, d1, d2, d3]) rfl ⟨unhide HS, ?_⟩
        rw [unhide HF]
        exact ⟨x, rfl, (unhide HI).below (unhide HS)⟩
      · rw [decide_eq_false heq] at NQ
        have HNX2 := hide (unhide HNX heq)
        clear heq HFD HNX
        go_wp2_with fail
        refine wp_region_quiet_below (by kernel_rfl) (by kernel_rfl) ?_
        repeat (quiet_step (fail))
        refine wpQuiet_nil ?_
        intro _ hw'
        obtain ⟨⟨dq, osq⟩, hw''⟩ := hw'
        subst hw''
        have b7 := hbw.trans ((below_regrown wr dq osq).mono hbw.size)
        generalize grow (redrawn wr dq) osq = w7 at *
        clear r0 r1 r2 r3 NQ a0 a1 a2 a3 u0 u1 hUr hEr
        go_wp2
        go_roundw
        case rel => exact ⟨j + 1, by go_num, by omega, b7, unhide HNX2⟩
        case measure =>
          simp only [intOf]
          omega
    · have i1 : ¬ (j : Int) < (es.length : Int) := by omega
      have HF := hide (fdP_none (ps := ps) (u := u) fun k hk e => unhide HN k (by rw [(unhide HA).1]; exact hk) (by rw [← (unhide HA).1] at hk; omega) (((unhide HA).2 k (by rw [(unhide HA).1]; exact hk) hk).u.trans e))
      have d0 : wr.cell? ⟨w.heap.size + 1, 0, none⟩ = some (.string ⟨#[]⟩) := by rw [Lib.cell_of_heap hEr]; rfl
      have d1 : wr.cell? ⟨w.heap.size + 1, 1, none⟩ = some (.string ⟨#[]⟩) := by rw [Lib.cell_of_heap hEr]; rfl
      have d2 : wr.cell? ⟨w.heap.size + 1, 2, none⟩ = some (.slice none 0 0) := by rw [Lib.cell_of_heap hEr]; rfl
      have d3 : wr.cell? ⟨w.heap.size + 1, 3, none⟩ = some (.slice none 0 0) := by rw [Lib.cell_of_heap hEr]; rfl
      have df : ∀ o, wr.frozen? ⟨w.heap.size + 1, o, none⟩ = false := fun o => Lib.frozen_of_heap hEr o
      have HS := hide ((((b0.setCell (p := ⟨w.heap.size + 1, 0, none⟩) (Nat.le_succ _) (.string ⟨#[]⟩)).setCell (p := ⟨w.heap.size + 1, 1, none⟩) (Nat.le_succ _) (.string ⟨#[]⟩)).setCell (p := ⟨w.heap.size + 1, 2, none⟩) (Nat.le_succ _) (.slice none 0 0)).setCell (p := ⟨w.heap.size + 1, 3, none⟩) (Nat.le_succ _) (.slice none 0 0))
      clear hUr hEr
      go_wp2
      refine bodyPost_ret (v := .tuple #[.agg #[.string ⟨#[]⟩, .string ⟨#[]⟩, .slice none 0 0, .slice none 0 0], .bool false]) (by simp [results, Try.results29, go_sem, d0, d1, d2, d3]) rfl ⟨unhide HS, ?_⟩
      rw [unhide HF]
      exact rfl
end Go.Proofs.Ythmmplmppchfmaa

namespace Go.Proofs.Ythmmplmppchfmaa
open Go.RowKit Go.Sort

theorem PutsU.nd {l l' : List U2} {u : U2} (h : PutsU l u l') (hn : l.Nodup) : l'.Nodup := by
  rcases h with ⟨_, rfl⟩ | ⟨h1, k, _, rfl, _⟩
  · exact hn
  · have hp : (l.take k ++ u :: l.drop k).Perm (u :: l) := by
      have := List.perm_middle (a := u) (l₁ := l.take k) (l₂ := l.drop k)
      rwa [List.take_append_drop] at this
    exact hp.nodup_iff.2 (List.nodup_cons.2 ⟨h1, hn⟩)
theorem PutsU.same {l l' : List U2} {u : U2} (h : PutsU l u l') : l' = l ∨ l'.length = l.length + 1 := by
  rcases h with ⟨_, rfl⟩ | ⟨_, k, hk, rfl, _⟩
  · exact .inl rfl
  · right
    rw [List.length_append, List.length_cons, List.length_take, List.length_drop]
    omega
theorem PutsU.rise {l l' : List U2} {u : U2} (h : PutsU l u l') (hr : l.Pairwise (fun a b => lessU a b = true)) : l'.Pairwise (fun a b => lessU a b = true) := by
  rcases h with ⟨_, rfl⟩ | ⟨hn, k, hk, rfl, hlo, hhi⟩
  · exact hr
  · have hs : (l.take k ++ l.drop k).Pairwise (fun a b => lessU a b = true) := by rw [List.take_append_drop]; exact hr
    obtain ⟨h1, h2, h3⟩ := List.pairwise_append.1 hs
    have hlow : ∀ a ∈ l.take k, lessU a u = true := fun a ha => by
      obtain ⟨i, hi, rfl⟩ := List.getElem_of_mem ha
      rw [List.length_take] at hi
      rw [List.getElem_take]
      exact hlo i (by omega) (by omega)
    have hhigh : ∀ b ∈ l.drop k, lessU u b = true := fun b hb => by
      obtain ⟨j, hj, rfl⟩ := List.getElem_of_mem hb
      have hkl : k < l.length := by rw [List.length_drop] at hj; omega
      have hne : l[k] ≠ u := fun e => hn (e ▸ List.getElem_mem hkl)
      have h0 : lessU u l[k] = true := by
        rcases sto_lessU.tri u l[k] with h | h | h
        · exact h
        · exact absurd h.symm hne
        · rw [hhi hkl] at h
          cases h
      have hd : l.drop k = l[k] :: l.drop (k + 1) := List.drop_eq_getElem_cons hkl
      generalize hb' : (l.drop k)[j] = b at hb
      rw [hd] at hb h2
      rcases List.mem_cons.1 hb with rfl | hb
      · exact h0
      · exact sto_lessU.trans _ _ _ h0 ((List.pairwise_cons.1 h2).1 _ hb)
    refine List.pairwise_append.2 ⟨h1, List.pairwise_cons.2 ⟨hhigh, h2⟩, fun a ha b hb => ?_⟩
    rcases List.mem_cons.1 hb with rfl | hb
    · exact hlow a ha
    · exact h3 a ha b hb
/-- What has been met. -/
structure AbS (S : U2 → List U2) (u : U2) (l : List U2) : Prop where
  nd : l.Nodup
  way : ∀ x ∈ l, ∃ f ∈ S u, Way S f x
  rise : l.Pairwise (fun a b => lessU a b = true)
theorem AbS.put {S : U2 → List U2} {u x : U2} {l l' : List U2} (h : AbS S u l) (hp : PutsU l x l') (hx : ∃ f ∈ S u, Way S f x) : AbS S u l' :=
  ⟨hp.nd h.nd, fun y hy => by
    rcases (hp.mem y).1 hy with rfl | hy
    · exact hx
    · exact h.way y hy, hp.rise h.rise⟩
theorem abs_len {S : U2 → List U2} {u : U2} {l N : List U2} (hn : l.Nodup) (hw : ∀ x ∈ l, ∃ f ∈ S u, Way S f x) (hN : ∀ x, ∀ v ∈ S x, v ∈ N) : l.length ≤ N.length :=
  nodup_le l N hn fun x hx => by
    obtain ⟨f, hf, hw⟩ := hw x hx
    cases hw with
    | here => exact hN _ _ hf
    | step _ hx => exact hN _ _ hx
theorem AbS.len {S : U2 → List U2} {u : U2} {l N : List U2} (h : AbS S u l) (hN : ∀ x, ∀ v ∈ S x, v ∈ N) : l.length ≤ N.length := abs_len h.nd h.way hN
/-- How a round grows. -/
structure AbG (S : U2 → List U2) (u : U2) (l0 l : List U2) : Prop where
  st : AbS S u l
  sup : ∀ x ∈ l0, x ∈ l
  le : l0.length ≤ l.length
  eq : l.length = l0.length → l = l0
theorem AbG.start {S : U2 → List U2} {u : U2} {l : List U2} (h : AbS S u l) : AbG S u l l := ⟨h, fun _ h => h, Nat.le_refl _, fun _ => rfl⟩
theorem AbG.put {S : U2 → List U2} {u x : U2} {l0 l l' : List U2} (h : AbG S u l0 l) (hp : PutsU l x l') (hx : ∃ f ∈ S u, Way S f x) : AbG S u l0 l' where
  st := h.st.put hp hx
  sup := fun y hy => (hp.mem y).2 (.inr (h.sup y hy))
  le := Nat.le_trans h.le hp.len.2
  eq := fun e => by
    have h1 := h.le
    rcases hp.same with rfl | h2
    · exact h.eq e
    · omega
/-- Once nothing comes. -/
theorem AbS.done {S : U2 → List U2} {u : U2} {l : List U2} (h : AbS S u l) (h0 : ∀ x ∈ S u, x ∈ l) (hc : ∀ y ∈ l, ∀ x ∈ S y, x ∈ l) (x : U2) : x ∈ l ↔ ∃ f ∈ S u, Way S f x := by
  refine ⟨h.way x, ?_⟩
  rintro ⟨f, hf, hw⟩
  induction hw with
  | here => exact h0 _ hf
  | step _ hx ih => exact hc _ ih _ hx

theorem r8findS_any (es : List E4) (ps : List EntP) (lo : Option Addr) (c : Nat) (u : U2) (w : World) (hl : es.length ≤ 1048576) (hr : RowG w lo 4 (es.map E4.cells)) (hA : AllEnt w (fun _ => True) es ps) :
    Calls Try.prog 29 #[.slice lo es.length c, .agg #[.string u.t, .string u.i]] w fun x w' => Below w.heap.size w w' ∧ ∃ (et ei : ByteArray) (po ao : Option Addr) (pc al ac : Nat) (b : Bool), x = .returned (.tuple #[.agg #[.string et, .string ei, .slice po (upS ps u).length pc, .slice ao al ac], .bool b]) ∧ RowG w' po 2 ((upS ps u).map U2.cells) := by
  refine (r8find_any es ps lo c u w hl hr hA).mono ?_
  rintro x w' ⟨hb, h⟩
  refine ⟨hb, ?_⟩
  unfold upS
  unfold FindPost at h
  cases hf : findP ps u with
  | none =>
    rw [hf] at h
    exact ⟨_, _, _, _, _, _, _, false, h, rowG_nil _ none _⟩
  | some p =>
    rw [hf] at h
    obtain ⟨e, h1, h2⟩ := h
    exact ⟨_, _, _, _, _, _, _, true, by rw [h1, ← h2.pl]; rfl, h2.rowU⟩
end Go.Proofs.Ythmmplmppchfmaa

namespace Go.Proofs.Ythmmplmppchfmaa
open Go.RowKit Go.Sort

set_option maxHeartbeats 4000000 in
set_option maxRecDepth 1000000 in
theorem r9above_any (es : List E4) (ps : List EntP) (lo : Option Addr) (c : Nat) (u : U2) (N : List U2) (w : World) (hl : es.length ≤ 1048576) (hr : RowG w lo 4 (es.map E4.cells)) (hA : AllEnt w (fun _ => True) es ps) (hN : ∀ x, ∀ v ∈ upS ps x, v ∈ N) (hN1 : N.length ≤ 100000) (hS : ∀ x, (upS ps x).length ≤ 100000) :
    Calls Try.prog 12 #[.slice lo es.length c, .agg #[.string u.t, .string u.i]] w fun x w' => Below w.heap.size w w' ∧ ∃ (v : Value) (l : List U2), x = .returned v ∧ l.Nodup ∧ l.Pairwise (fun a b => lessU a b = true) ∧ (∀ x, x ∈ l ↔ ∃ f ∈ upS ps u, Way (upS ps) f x) ∧ w'.ownsRow 0 28 2 v l.length (l.map U2.cells).flatten := by
  have b1 := belowA w (.cells #[.string u.t, .string u.i] 28)
  have hU := alloc_heap w (.cells #[.string u.t, .string u.i] 28)
  have F1 := r8findS_any es ps lo c u _ hl (hr.below b1) (hA.below b1)
  have HF := hide (fun (y : U2) (wx : World) (hb : Below w.heap.size w wx) => r8findS_any es ps lo c y wx hl (hr.below hb) (hA.below hb))
  have HS1 := hide (hS u)
  have HSA := hide hS
  clear hr hA hS
  generalize hSe : upS ps = S at *
  clear hSe
  go_enter Try.func12, Try.ntmps12
  go_upto_region 1 with fail
  generalize w.alloc _ = w1 at *
  have u0 : w1.cell? ⟨w.heap.size, 0, none⟩ = some (.string u.t) := by rw [Lib.cell_of_heap hU]; rfl
  have u1 : w1.cell? ⟨w.heap.size, 1, none⟩ = some (.string u.i) := by rw [Lib.cell_of_heap hU]; rfl
  clear hU
  go_wp2_with fail
  refine F1.mono ?_
  clear F1
  rintro e9 w2 ⟨b2, et, ei, epo, eao, epc, eal, eac, ok, rfl, hpr⟩
  have b3 := belowA w2 (.cells #[.string et, .string ei, .slice epo (S u).length epc, .slice eao eal eac] 40)
  have h3 := alloc_heap w2 (.cells #[.string et, .string ei, .slice epo (S u).length epc, .slice eao eal eac] 40)
  have hpr3 := hpr.below b3
  have bw3 := b1.trans ((b2.trans (b3.mono b2.size)).mono b1.size)
  clear u0 u1 hpr
  go_upto_region 2 with fail
  generalize w2.alloc _ = w3 at *
  go_wp2_with fail
  have hlen := unhide HS1
  go_loopw [7, 8] (fun ov iv wr => ∃ (l : List U2) (i : Nat), iv = .int .i64 i ∧ i ≤ (S u).length ∧ Below w3.heap.size w3 wr ∧ AbS S u l ∧ (∀ x ∈ (S u).take i, x ∈ l) ∧ wr.ownsRow 0 28 2 ov l.length (l.map U2.cells).flatten) (fun _ iv _ => (S u).length - (intOf iv).toNat)
  case atStart => exact ⟨[], 0, by go_num, Nat.zero_le _, Below.refl _ _, ⟨List.nodup_nil, fun x hx => (by cases hx), List.Pairwise.nil⟩, fun x hx => by simp at hx, World.ownsRow_nil _ _ _ _⟩
  case round =>
    rename World => wr
    obtain ⟨l, i, rfl, hi, hbw, hst, htk, hown⟩ := hrel
    have k0 : (0 : Int) ≤ (i : Int) := by omega
    have h3r := kept_of_below hbw h3
    have p2 : wr.cell? ⟨w2.heap.size, 2, none⟩ = some (.slice epo (S u).length epc) := by rw [Lib.cell_of_heap h3r]; rfl
    by_cases hlt : i < (S u).length
    · have i1 : (i : Int) < ((S u).length : Int) := by omega
      have hiS : i < (S u).length := by omega
      obtain ⟨b, off, hpo, hb, hcx⟩ := rowG_at hpr3 hbw hiS
      rw [hpo] at p2
      have A : AtE2 wr b (off + i * 2) (S u)[i] := AtE2.of hcx
      have P := r9put_any l 0 _ (S u)[i] wr (Nat.zero_le _) (by have := hst.len hN; omega) hown
      unfold U2.val at P
      have HST := hide hst
      have HTK := hide htk
      have HX := hide (show ∃ f ∈ S u, Way S f (S u)[i] from ⟨_, List.getElem_mem hiS, .here _⟩)
      have HTN := hide (List.take_succ_eq_append_getElem hiS)
      obtain ⟨x, hx⟩ : ∃ x, x = (S u)[i] := ⟨_, rfl⟩
      rw [← hx] at A P HX HTN
      obtain ⟨a0, a1⟩ := A
      clear hx hcx hst htk hown h3r hpo
      go_wp2_with fail
      refine P.mono ?_
      clear P
      rintro e8 w7 ⟨b7, v', l', rfl, hp, hown'⟩
      have HP := hide hp
      have HO := hide hown'
      clear a0 a1 p2 hp hown'
      go_wp2_with fail
      go_roundw
      case rel =>
        refine ⟨l', i + 1, by go_num, by omega, hbw.trans (b7.mono hbw.size), (unhide HST).put (unhide HP) (unhide HX), fun y hy => ?_, unhide HO⟩
        rw [unhide HTN, List.mem_append] at hy
        rcases hy with hy | hy
        · exact ((unhide HP).mem y).2 (.inr (unhide HTK y hy))
        · exact ((unhide HP).mem y).2 (.inl (List.mem_singleton.1 hy))
      case measure =>
        simp only [intOf]
        omega
    · have i1 : ¬ (i : Int) < ((S u).length : Int) := by omega
      have HH0 := hide (show ∀ x ∈ S u, x ∈ l from fun x hx => htk x (by rw [List.take_of_length_le (by omega)]; exact hx))
      have HST := hide hst
      have HO := hide hown
      have bw4 := bw3.trans (hbw.mono bw3.size)
      have hlN := hst.len hN
      clear hst hown htk h3r
      go_wp2_with fail
      clear p2
      go_loopw [7, 9, 10, 11, 12, 13, 14] (fun ov nv _ _ _ _ _ wq => ∃ (l : List U2) (n : Int), nv = .int .i64 n ∧ -1 ≤ n ∧ n ≤ l.length ∧ Below wr.heap.size wr wq ∧ AbS S u l ∧ (∀ x ∈ S u, x ∈ l) ∧ (n = l.length → ∀ y ∈ l, ∀ x ∈ S y, x ∈ l) ∧ wq.ownsRow 0 28 2 ov l.length (l.map U2.cells).flatten) (fun _ nv _ _ _ _ _ _ => ((N.length : Int) - intOf nv).toNat)
      case atStart => exact ⟨l, -1, by go_num, by omega, by omega, Below.refl _ _, unhide HST, unhide HH0, fun h => absurd h (by omega), unhide HO⟩
      case round =>
        rename World => wq
        obtain ⟨l, n, rfl, hn0, hn1, hbq, hst, h0, hcl, hown⟩ := hrel
        have hlN := hst.len hN
        have HST := hide hst
        have HH0 := hide h0
        obtain ⟨do1, dc1, rfl, hdc1⟩ := ownE_slice hown
        have HO := hide hown
        have HCL := hide hcl
        clear hst h0 hown hcl
        by_cases hne : n = (l.length : Int)
        · have hD := hide ((unhide HST).done (unhide HH0) (unhide HCL hne))
          subst hne
          go_wp2
          go_ret
          exact ⟨bw4.trans (hbq.mono bw4.size), _, rfl, l, (unhide HST).nd, (unhide HST).rise, unhide hD, unhide HO⟩
        · have e1 : (n == (l.length : Int)) = false := by simpa using hne
          go_wp2_with fail
          go_loopw [7, 11, 12, 13, 14] (fun ov iv _ _ _ wp => ∃ (l' : List U2) (i : Nat), iv = .int .i64 i ∧ i ≤ l.length ∧ Below wq.heap.size wq wp ∧ AbG S u l l' ∧ (∀ y ∈ l.take i, ∀ x ∈ S y, x ∈ l') ∧ wp.ownsRow 0 28 2 ov l'.length (l'.map U2.cells).flatten) (fun _ iv _ _ _ _ => l.length - (intOf iv).toNat)
          case atStart => exact ⟨l, 0, by go_num, Nat.zero_le _, Below.refl _ _, AbG.start (unhide HST), fun y hy => by simp at hy, unhide HO⟩
          case round =>
            rename World => wp
            obtain ⟨l', i, rfl, hi, hbp, hg, htk, hown⟩ := hrel
            have k0 : (0 : Int) ≤ (i : Int) := by omega
            have HG := hide hg
            have HTK := hide htk
            have HO2 := hide hown
            clear hg htk hown
            by_cases hlt : i < l.length
            · have i1 : (i : Int) < (l.length : Int) := by omega
              obtain ⟨ao4, cap4, e4, hrow4, _, _⟩ := rowG_own (lenU l) (by simpa using own_below (unhide HO) hbp)
              simp only [List.length_map] at e4
              cases e4
              obtain ⟨b, off, rfl, hb, hcx⟩ := rowG_at hrow4 (Below.refl _ _) hlt
              have A : AtE2 wp b (off + i * 2) l[i] := AtE2.of hcx
              have bwp := bw4.trans ((hbq.trans (hbp.mono hbq.size)).mono bw4.size)
              have F := unhide HF l[i] wp bwp
              have HWY := hide (show ∀ x ∈ S l[i], ∃ f ∈ S u, Way S f x from fun x hx => by
                obtain ⟨f, hf, hw⟩ := (unhide HST).way l[i] (List.getElem_mem hlt)
                exact ⟨f, hf, .step hw hx⟩)
              have HTN := hide (List.take_succ_eq_append_getElem hlt)
              have HSY := hide (unhide HSA l[i])
              obtain ⟨y, hy⟩ : ∃ y, y = l[i] := ⟨_, rfl⟩
              rw [← hy] at A F HWY HTN HSY
              obtain ⟨a0, a1⟩ := A
              clear hy hcx hrow4
              go_wp2_with fail
              refine F.mono ?_
              clear F
              rintro e9 w5 ⟨b5, dt, di, dpo, dao, dpc, dal, dac, ok', rfl, hpr'⟩
              have b6 := belowA w5 (.cells #[.string dt, .string di, .slice dpo (S y).length dpc, .slice dao dal dac] 40)
              have h6 := alloc_heap w5 (.cells #[.string dt, .string di, .slice dpo (S y).length dpc, .slice dao dal dac] 40)
              have B6 := b5.trans (b6.mono b5.size)
              have hpr6 := hpr'.below b6
              clear a0 a1 hpr'
              go_upto_region 15 with fail
              generalize w5.alloc _ = w6 at *
              have hlen6 := unhide HSY
              have HG6 := hide (own_below (unhide HO2) B6)
              go_wp2_with fail
              go_loopw [7, 14] (fun ov kv wz => ∃ (l2 : List U2) (k : Nat), kv = .int .i64 k ∧ k ≤ (S y).length ∧ Below w6.heap.size w6 wz ∧ AbG S u l l2 ∧ (∀ y ∈ l.take i, ∀ x ∈ S y, x ∈ l2) ∧ (∀ x ∈ (S y).take k, x ∈ l2) ∧ wz.ownsRow 0 28 2 ov l2.length (l2.map U2.cells).flatten) (fun _ kv _ => (S y).length - (intOf kv).toNat)
              case atStart => exact ⟨l', 0, by go_num, Nat.zero_le _, Below.refl _ _, unhide HG, unhide HTK, fun x hx => by simp at hx, unhide HG6⟩
              case round =>
                rename World => wz
                obtain ⟨l2, k, rfl, hk, hbz, hg2, htk2, htk3, hown2⟩ := hrel
                have q0 : (0 : Int) ≤ (k : Int) := by omega
                have h6z := kept_of_below hbz h6
                have p2 : wz.cell? ⟨w5.heap.size, 2, none⟩ = some (.slice dpo (S y).length dpc) := by rw [Lib.cell_of_heap h6z]; rfl
                have HG2 := hide hg2
                have HT2 := hide htk2
                have HT3 := hide htk3
                have hl2N := hg2.st.len hN
                by_cases hlt2 : k < (S y).length
                · have q1 : (k : Int) < ((S y).length : Int) := by omega
                  have hkS : k < (S y).length := by omega
                  obtain ⟨b', off', hpo, hb', hcx⟩ := rowG_at hpr6 hbz hkS
                  rw [hpo] at p2
                  have A : AtE2 wz b' (off' + k * 2) (S y)[k] := AtE2.of hcx
                  have P := r9put_any l2 0 _ (S y)[k] wz (Nat.zero_le _) (by omega) hown2
                  unfold U2.val at P
                  have HX := hide (unhide HWY _ (List.getElem_mem hkS))
                  have HTN2 := hide (List.take_succ_eq_append_getElem hkS)
                  obtain ⟨x, hx⟩ : ∃ x, x = (S y)[k] := ⟨_, rfl⟩
                  rw [← hx] at A P HX HTN2
                  obtain ⟨a0, a1⟩ := A
                  clear hx hcx hg2 htk2 htk3 hown2 h6z hpo
                  go_wp2_with fail
                  refine P.mono ?_
                  clear P
                  rintro e8 w7 ⟨b7, v', l3, rfl, hp, hown'⟩
                  have HP := hide hp
                  have HO3 := hide hown'
                  clear a0 a1 p2 hp hown'
                  go_wp2_with fail
                  go_roundw
                  case rel =>
                    refine ⟨l3, k + 1, by go_num, by omega, hbz.trans (b7.mono hbz.size), (unhide HG2).put (unhide HP) (unhide HX), fun z hz x' hx' => ((unhide HP).mem x').2 (.inr (unhide HT2 z hz x' hx')), fun z hz => ?_, unhide HO3⟩
                    rw [unhide HTN2, List.mem_append] at hz
                    rcases hz with hz | hz
                    · exact ((unhide HP).mem z).2 (.inr (unhide HT3 z hz))
                    · exact ((unhide HP).mem z).2 (.inl (List.mem_singleton.1 hz))
                  case measure =>
                    simp only [intOf]
                    omega
                · have q1 : ¬ (k : Int) < ((S y).length : Int) := by omega
                  have HO3 := hide hown2
                  have HT4 := hide (show ∀ x ∈ S y, x ∈ l2 from fun x hx => htk3 x (by rw [List.take_of_length_le (by omega)]; exact hx))
                  have bz := hide (hbp.trans ((B6.trans (hbz.mono B6.size)).mono hbp.size))
                  clear hg2 htk2 htk3 hown2 h6z
                  go_wp2_with fail
                  go_roundw
                  case rel =>
                    refine ⟨l2, i + 1, by go_num, by omega, unhide bz, unhide HG2, fun z hz x' hx' => ?_, unhide HO3⟩
                    rw [unhide HTN, List.mem_append] at hz
                    rcases hz with hz | hz
                    · exact unhide HT2 z hz x' hx'
                    · rw [List.mem_singleton.1 hz] at hx'
                      exact unhide HT4 x' hx'
                  case measure =>
                    simp only [intOf]
                    omega
            · have i1 : ¬ (i : Int) < (l.length : Int) := by omega
              have HC2 := hide (show (l.length : Int) = (l'.length : Int) → ∀ y ∈ l', ∀ x ∈ S y, x ∈ l' from fun h y hy x hx => by
                have e2 := (unhide HG).eq (by omega)
                exact unhide HTK y (by rw [List.take_of_length_le (by omega), ← e2]; exact hy) x hx)
              have HLE := hide (unhide HG).le
              go_wp2_with fail
              go_roundw
              case rel => exact ⟨l', l.length, by go_num, by omega, by have := unhide HLE; omega, hbq.trans (hbp.mono hbq.size), (unhide HG).st, fun x hx => (unhide HG).sup x (unhide HH0 x hx), unhide HC2, unhide HO2⟩
              case measure =>
                simp only [intOf]
                omega
end Go.Proofs.Ythmmplmppchfmaa

namespace Go.Proofs.Ythmmplmppchfmaa
open Go.RowKit Go.Sort

theorem way_first {S : U2 → List U2} {u a : U2} (h : Way S u a) : u = a ∨ ∃ f ∈ S u, Way S f a := by
  induction h with
  | here => exact .inl rfl
  | @step v x _ hx ih =>
    rcases ih with rfl | ⟨f, hf, hw⟩
    · exact .inr ⟨_, hx, .here _⟩
    · exact .inr ⟨f, hf, .step hw hx⟩
theorem way_cons {S : U2 → List U2} {u f a : U2} (hf : f ∈ S u) (h : Way S f a) : Way S u a := by
  induction h with
  | here => exact .step (.here _) hf
  | step _ hx ih => exact .step ih hx
set_option maxHeartbeats 4000000 in
set_option maxRecDepth 1000000 in
theorem r9in_any (es : List E4) (ps : List EntP) (lo : Option Addr) (c : Nat) (u a : U2) (N : List U2) (w : World) (hl : es.length ≤ 1048576) (hr : RowG w lo 4 (es.map E4.cells)) (hA : AllEnt w (fun _ => True) es ps) (hN : ∀ x, ∀ v ∈ upS ps x, v ∈ N) (hN1 : N.length ≤ 100000) (hS : ∀ x, (upS ps x).length ≤ 100000) :
    Calls Try.prog 9 #[.slice lo es.length c, .agg #[.string u.t, .string u.i], .agg #[.string a.t, .string a.i]] w fun x w' => Below w.heap.size w w' ∧ ∃ z, x = .returned (.bool z) ∧ (z = true ↔ Way (upS ps) u a) := by
  obtain ⟨b2, z2, hU, hB⟩ := ev2F w (.cells #[.string u.t, .string u.i] 28) (.cells #[.string a.t, .string a.i] 28)
  have CA := fun (wx : World) (hb : Below w.heap.size w wx) => r9above_any es ps lo c u N wx hl (hr.below hb) (hA.below hb) hN hN1 hS
  have HL := hide (fun (l : List U2) (hn : l.Nodup) (hm : ∀ x, x ∈ l ↔ ∃ f ∈ upS ps u, Way (upS ps) f x) => abs_len hn (fun x hx => (hm x).1 hx) hN)
  clear hr hA hN hS
  generalize hSe : upS ps = S at *
  clear hSe
  go_enter Try.func9, Try.ntmps9
  go_upto_region 1 with fail
  generalize (w.alloc _).alloc _ = w2 at *
  have u0 : w2.cell? ⟨w.heap.size, 0, none⟩ = some (.string u.t) := by rw [Lib.cell_of_heap hU]; rfl
  have u1 : w2.cell? ⟨w.heap.size, 1, none⟩ = some (.string u.i) := by rw [Lib.cell_of_heap hU]; rfl
  have a0 : w2.cell? ⟨w.heap.size + 1, 0, none⟩ = some (.string a.t) := by rw [Lib.cell_of_heap hB]; rfl
  have a1 : w2.cell? ⟨w.heap.size + 1, 1, none⟩ = some (.string a.i) := by rw [Lib.cell_of_heap hB]; rfl
  have NQ := binEqlUid u a
  by_cases heq : u = a
  · have HW := hide (show Way S u a from heq ▸ .here _)
    rw [decide_eq_true heq] at NQ
    clear heq CA
    have r0 := cell_regrown u0
    have r1 := cell_regrown u1
    have r2 := cell_regrown a0
    have r3 := cell_regrown a1
    refine wp_region_quiet_below (by kernel_rfl) (by kernel_rfl) ?_
    repeat (quiet_step (fail))
    refine wpQuiet_nil ?_
    intro _ hw'
    obtain ⟨⟨dq, osq⟩, hw''⟩ := hw'
    subst hw''
    have b7 := b2.trans ((below_regrown w2 dq osq).mono b2.size)
    generalize grow (redrawn w2 dq) osq = w7 at *
    clear r0 r1 r2 r3 NQ u0 u1 a0 a1
    go_wp2
    go_ret
    exact ⟨b7, true, rfl, fun _ => unhide HW, fun _ => rfl⟩
  · have HNE := hide heq
    rw [decide_eq_false heq] at NQ
    clear heq
    have hlt : w.heap.size + 1 < w2.heap.size := by omega
    go_region_with (first
      | (go_at_call 12
         refine (CA _ b2.drew).mono ?_
         rintro e8 w6 ⟨b6, v, l, rfl, hnd, _, hmem, hown⟩
         obtain ⟨ao4, cap4, rfl, hrow, _, _⟩ := rowG_own (lenU l) (by simpa using hown)
         have HM := hide hmem
         have hll := unhide HL l hnd hmem
         simp only [List.length_map]
         have c0 := (b6.cell (p := ⟨w.heap.size + 1, 0, none⟩) hlt).trans a0
         have c1 := (b6.cell (p := ⟨w.heap.size + 1, 1, none⟩) hlt).trans a1
         clear hmem hnd hown)
      | (go_at_call 25
         refine (r9has_any l ao4 cap4 a _ (by omega) hrow).mono ?_
         rintro e8 w8 ⟨rfl, b8⟩))
    all_goals
      have HI := hide (show decide (a ∈ l) = true ↔ Way S u a by
        rw [decide_eq_true_eq, unhide HM a]
        constructor
        · rintro ⟨f, hf, hw⟩
          exact way_cons hf hw
        · intro h
          rcases way_first h with e | h
          · exact absurd e (unhide HNE)
          · exact h)
      have B6 := b2.drew.trans (b6.mono b2.drew.size)
      have B8 := hide (B6.trans (b8.mono B6.size))
      clear B6
      go_wp2
      go_ret
      exact ⟨unhide B8, _, rfl, unhide HI⟩
end Go.Proofs.Ythmmplmppchfmaa
