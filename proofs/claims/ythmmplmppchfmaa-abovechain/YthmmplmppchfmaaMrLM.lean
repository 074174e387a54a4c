/-
  sort.Slice over a row of at most one uid, and over one of 13 to 49: what it does.
  above.Above, where at most 49 are above one: what it returns.
  Good entities in memory: what In and Above return of them.
-/
import Derived.Test.YthmmplmppchfmaaMrJ
import Derived.Test.YthmmplmppchfmaaMqSV
import Derived.Test.YthmmplmppchfmaaMqKW
import Derived.Test.YthmmplmppchfmaaMqB
namespace Go.Proofs.Ythmmplmppchfmaa
open Go.RowKit Go.Sort

set_option maxHeartbeats 1000000 in
set_option maxRecDepth 1000000 in
theorem insTiny_any (W : World) (lv sv : Value) (n : Nat) (h1 : n ≤ 1) : Calls Try.prog 60 #[.agg #[lv, sv], .int .i64 0, .int .i64 n] W fun e W' => e = .returned (.tuple #[]) ∧ Below W.heap.size W W' := by
  have k1 : ¬ (1 : Int) < (n : Int) := by omega
  have b1 := belowA W (.cells #[lv, sv] 89)
  go_enter Try.func60, Try.ntmps60
  go_wp2
  refine wp_loop_rounds 1 ?_
  rw [rounds_succ]
  go_wp2
  refine bodyPost_end (v := .tuple #[]) (by simp [results, Try.results60, go_sem]) rfl ?_
  exact ⟨rfl, b1⟩
set_option maxHeartbeats 1000000 in
set_option maxRecDepth 1000000 in
theorem pdqTiny_any (W : World) (lv sv : Value) (n : Nat) (h1 : n ≤ 1) (lim : Int) : Calls Try.prog 43 #[.agg #[lv, sv], .int .i64 0, .int .i64 n, .int .i64 lim] W fun e W' => e = .returned (.tuple #[]) ∧ Below W.heap.size W W' := by
  have b1 := belowA W (.cells #[lv, sv] 89)
  have hbx := heap_alloc_new W (.cells #[lv, sv] 89)
  have IN := insTiny_any (W.alloc (.cells #[lv, sv] 89)) lv sv n h1
  have k1 : (n : Int) ≤ 12 := by omega
  have k2 : (0 : Int) ≤ (n : Int) := by omega
  have c0 : (W.alloc (.cells #[lv, sv] 89)).cell? ⟨W.heap.size, 0, none⟩ = some lv := by rw [Lib.cell_of_heap hbx]; rfl
  have c1 : (W.alloc (.cells #[lv, sv] 89)).cell? ⟨W.heap.size, 1, none⟩ = some sv := by rw [Lib.cell_of_heap hbx]; rfl
  clear hbx
  go_enter Try.func43, Try.ntmps43
  go_wp2
  refine wp_loop_rounds 1 ?_
  rw [rounds_succ]
  go_wp2_with fail
  refine IN.mono ?_
  clear IN
  rintro _ W' ⟨rfl, hB⟩
  have HB := hide (b1.trans (hB.mono b1.size))
  clear hB b1
  go_wp2
  (try simp only [Exit.inBlock, Exit.then])
  refine bodyPost_ret (v := .tuple #[]) (by simp [results, Try.results43, go_sem]) rfl ?_
  exact ⟨rfl, unhide HB⟩

set_option maxHeartbeats 4000000 in
set_option maxRecDepth 1000000 in
theorem sortSliceTiny_any (W : World) (V n cap : Nat) (ao : Option Addr) (h1 : n ≤ 1) :
    Calls Try.prog 26 #[.iface 30 (.slice ao n cap), lessV V] W fun e W' => e = .returned (.tuple #[]) ∧ Below W.heap.size W W' := by
  obtain ⟨i0, hi0, hd0⟩ : ∃ i0, Try.prog.info? 30 = some i0 ∧ i0.desc = .slice 28 := ⟨_, rfl, rfl⟩
  obtain ⟨ie, hie, hpt, hby⟩ : ∃ ie, Try.prog.info? 28 = some ie ∧ ie.hasPointers = true ∧ ie.bytes = 32 := ⟨_, rfl, rfl, rfl⟩
  obtain ⟨sv, fs, hsv, hfs⟩ : ∃ (sv : Value) (fs : Nat), sv = .func (.func fs) #[] #[] ∧ (∀ w : World, (Extern.ReflectliteSwapper.swapper "internal/reflectlite" (Extern.ReflectliteValue.valueError "Swapper") #[.iface 30 (.slice ao n cap)]).run Try.prog w = .ok sv w) := by
    have hke : ∀ w, (Extern.Rtype.kind 28).run Try.prog w = .ok 25 w := fun w => by kernel_rfl
    rcases (show n = 0 ∨ n = 1 by omega) with rfl | rfl
    · exact ⟨_, 49, rfl, fun w => Lib.run_swapper_slice (P := Try.prog) 30 28 i0 ie hi0 hd0 hie 25 hke ao 0 cap 49 (by kernel_rfl) w⟩
    · exact ⟨_, 50, rfl, fun w => Lib.run_swapper_slice (P := Try.prog) 30 28 i0 ie hi0 hd0 hie 25 hke ao 1 cap 50 (by kernel_rfl) w⟩
  have hv := Lib.run_valueOf_slice (P := Try.prog) 30 28 i0 hi0 hd0 ao n cap W
  have hs := hfs
  have hl := fun a w ha => Lib.run_valueLen_slice (P := Try.prog) 30 28 i0 hi0 hd0 rfl a ao n cap w ha
  have hb := fun w => bits_any n (by omega) w
  have hp := fun W' (lim : Int) => pdqTiny_any W' (.func (.func 27) #[] #[.pointer (some ⟨V, 0, none⟩)]) sv n h1 lim
  have wr : IntKind.u64.wrap (n : Int) = n := by simp [IntKind.wrap, IntKind.bits, IntKind.signed]; omega
  simp only [typeHandle, show Try.prog.globals.size = 0 from rfl] at hv hl
  clear hpt hby hi0 hd0 hie hfs
  rw [hsv] at hs hp
  clear hsv
  unfold lessV at *
  go_enter Try.func26, Try.ntmps26
  go_wp2
  rw [run_callFunc_extern Try.func39 (by kernel_rfl) (by kernel_rfl) (by kernel_rfl) (e := fun args => Extern.ReflectliteValue.unpack (args.getD 0 (.tuple #[]))) (by kernel_rfl),
    show Sem.run Try.prog ((fun args : Array Value => Extern.ReflectliteValue.unpack (args.getD 0 (.tuple #[]))) #[.iface 30 (.slice ao n cap)]) W = _ from hv]
  simp only [Result.andThen]
  rw [Oper.upon_value]
  go_wp2
  rw [run_callFunc_extern Try.func40 (by kernel_rfl) (by kernel_rfl) (by kernel_rfl) (e := Extern.ReflectliteSwapper.swapper "internal/reflectlite" (Extern.ReflectliteValue.valueError "Swapper")) (by kernel_rfl), hs]
  simp only [Result.andThen]
  rw [Oper.upon_value]
  go_wp2
  rw [run_callFunc_extern Try.func41 (by kernel_rfl) (by kernel_rfl) (by kernel_rfl) (e := Extern.ReflectliteValue.method (Extern.ReflectliteValue.valueError "reflectlite.Value.Len" 0) Extern.ReflectliteValue.len) (by kernel_rfl),
    hl _ _ (by simp)]
  simp only [Result.andThen]
  rw [Oper.upon_value]
  go_wp2_with fail
  refine (hb _).mono ?_
  rintro _ _ ⟨⟨lim, rfl⟩, rfl⟩
  go_wp2_with fail
  refine (hp _ lim).mono ?_
  rintro _ W' ⟨rfl, hB⟩
  have HB := hide ((belowA _ _).trans (((belowA _ _).trans (hB.mono (belowA _ _).size)).mono (belowA _ _).size))
  clear hB
  go_wp2
  refine bodyPost_end (v := .tuple #[]) (by simp [results, Try.results26, go_sem]) rfl ?_
  exact ⟨rfl, unhide HB⟩

set_option maxHeartbeats 4000000 in
set_option maxRecDepth 1000000 in
theorem sortSliceBig_any {w W : World} {B V g cap n : Nat} {d : Array U2} (h : SR w B V g cap d W) (hn : d.size = n) (h13 : 13 ≤ n) (h49 : n ≤ 49) :
    Calls Try.prog 26 #[.iface 30 (.slice (some ⟨g, 0, none⟩) n cap), lessV V] W fun e W' => ∃ d', PermIn 0 n d d' ∧ SortedIn lessU 0 n d' ∧ e = .returned (.tuple #[]) ∧ d'.size = n ∧ SR w B V g cap d' W' := by
  obtain ⟨i0, hi0, hd0⟩ : ∃ i0, Try.prog.info? 30 = some i0 ∧ i0.desc = .slice 28 := ⟨_, rfl, rfl⟩
  obtain ⟨ie, hie, hpt, hby⟩ : ∃ ie, Try.prog.info? 28 = some ie ∧ ie.hasPointers = true ∧ ie.bytes = 32 := ⟨_, rfl, rfl, rfl⟩
  have hk : Lib.swapperK n ie 25 = 9 := by
    unfold Lib.swapperK
    rw [hpt, hby]
    have a0 : (n == 0) = false := by simp; omega
    have a1 : (n == 1) = false := by simp; omega
    rw [a0, a1]
    rfl
  obtain ⟨th, hth⟩ : ∃ th, th = typeHandle Try.prog 28 := ⟨_, rfl⟩
  have hke : ∀ w, (Extern.Rtype.kind 28).run Try.prog w = .ok 25 w := fun w => by kernel_rfl
  have hv := Lib.run_valueOf_slice (P := Try.prog) 30 28 i0 hi0 hd0 (some ⟨g, 0, none⟩) n cap W
  have hs := fun w => Lib.run_swapper_slice (P := Try.prog) 30 28 i0 ie hi0 hd0 hie 25 hke (some ⟨g, 0, none⟩) n cap 57 (by rw [hk]; kernel_rfl) w
  rw [hk] at hs
  have hl := fun a w ha => Lib.run_valueLen_slice (P := Try.prog) 30 28 i0 hi0 hd0 rfl a (some ⟨g, 0, none⟩) n cap w ha
  have hb := fun w => bits_len n h13 (by omega) w
  have hp := fun W' (hb : Below W.heap.size W W') (lim : Nat) (hlim : lim ≤ 1000) => sortPdq_any hth h49 (n + 1) W' d 0 n lim (by omega) (h.grow hb) hn (Nat.zero_le _) (Nat.le_refl _) hlim (.inl rfl)
  have wr : IntKind.u64.wrap (n : Int) = n := by simp [IntKind.wrap, IntKind.bits, IntKind.signed]; omega
  simp only [typeHandle, show Try.prog.globals.size = 0 from rfl] at hv hl
  unfold swapV at hp
  rw [show ((0 : Nat) : Int) = 0 from rfl] at hp
  rw [← hth] at hs
  clear hke hk hpt hby h hi0 hd0 hie hth
  unfold lessV at *
  go_enter Try.func26, Try.ntmps26
  go_wp2
  rw [run_callFunc_extern Try.func39 (by kernel_rfl) (by kernel_rfl) (by kernel_rfl) (e := fun args => Extern.ReflectliteValue.unpack (args.getD 0 (.tuple #[]))) (by kernel_rfl),
    show Sem.run Try.prog ((fun args : Array Value => Extern.ReflectliteValue.unpack (args.getD 0 (.tuple #[]))) #[.iface 30 (.slice (some ⟨g, 0, none⟩) n cap)]) W = _ from hv]
  simp only [Result.andThen]
  rw [Oper.upon_value]
  go_wp2
  rw [run_callFunc_extern Try.func40 (by kernel_rfl) (by kernel_rfl) (by kernel_rfl) (e := Extern.ReflectliteSwapper.swapper "internal/reflectlite" (Extern.ReflectliteValue.valueError "Swapper")) (by kernel_rfl), hs]
  simp only [Result.andThen]
  rw [Oper.upon_value]
  go_wp2
  rw [run_callFunc_extern Try.func41 (by kernel_rfl) (by kernel_rfl) (by kernel_rfl) (e := Extern.ReflectliteValue.method (Extern.ReflectliteValue.valueError "reflectlite.Value.Len" 0) Extern.ReflectliteValue.len) (by kernel_rfl),
    hl _ _ (by simp)]
  simp only [Result.andThen]
  rw [Oper.upon_value]
  go_wp2_with fail
  refine (hb _).mono ?_
  rintro _ _ ⟨⟨lim, rfl, _, hlim⟩, rfl⟩
  go_wp2_with fail
  refine (hp _ ?_ lim (by omega)).mono ?_
  · exact (belowA _ _).trans ((belowA _ _).mono (belowA _ _).size)
  rintro _ W' ⟨d', hp1, hs1, rfl, hz, hS, _⟩
  have HS := hide hS
  have HZ := hide hz
  clear hS hz
  go_wp2
  refine bodyPost_end (v := .tuple #[]) (by simp [results, Try.results26, go_sem]) rfl ?_
  exact ⟨d', hp1, hs1, rfl, unhide HZ, unhide HS⟩
end Go.Proofs.Ythmmplmppchfmaa

namespace Go.Proofs.Ythmmplmppchfmaa
open Go.RowKit Go.Sort

theorem pair_short : ∀ {l : List U2}, l.length ≤ 1 → l.Pairwise (fun a b => lessU a b = true)
  | [], _ => List.Pairwise.nil
  | [_], _ => List.pairwise_singleton _ _
  | _ :: _ :: _, h => by simp at h
theorem sortSliceG_any {w W : World} {B V g cap n : Nat} {d : Array U2} (h : SR w B V g cap d W) (hn : d.size = n) (h2 : 2 ≤ n) (h49 : n ≤ 49) :
    Calls Try.prog 26 #[.iface 30 (.slice (some ⟨g, 0, none⟩) n cap), lessV V] W fun e W' => ∃ d', PermIn 0 n d d' ∧ SortedIn lessU 0 n d' ∧ e = .returned (.tuple #[]) ∧ d'.size = n ∧ SR w B V g cap d' W' := by
  rcases Nat.lt_or_ge 12 n with h12 | h12
  · exact sortSliceBig_any h hn h12 h49
  · refine (sortSlice_any h hn h2 h12).mono ?_
    rintro e W' ⟨he, hz, hS⟩
    have hI := insertionSort_holds (lt := lessU) swo_lessU d 0 n (Nat.zero_le _) (by omega)
    exact ⟨_, hI.1, hI.2, he, hz, hS⟩

set_option maxHeartbeats 4000000 in
set_option maxRecDepth 1000000 in
theorem aboveG_any (S : U2 → List U2) (es : List E4) (ao : Option Addr) (cap : Nat) (u : U2) (N : List U2) (w : World) (hl : es.length ≤ 1048576) (hr : RowG w ao 4 (es.map E4.cells)) (hS : StepsR w w.heap.size (upM es) S) (hN2 : ∀ x, ∀ v ∈ S x, v ∈ N) (hN : N.length ≤ 99999) (h12 : ∀ m : List U2, m.Nodup → (∀ x, x ∈ m ↔ ∃ f ∈ S u, Way S f x) → m.length ≤ 49) :
    Calls Try.prog 11 #[.slice ao es.length cap, u.val] w fun x w' => Below w.heap.size w w' ∧ ∃ (lo : Option Addr) (c : Nat) (l : List U2), x = .returned (.slice lo l.length c) ∧ RowG w' lo 2 (l.map U2.cells) ∧ l.Pairwise (fun a b => lessU a b = true) ∧ ∀ x, x ∈ l ↔ ∃ f ∈ S u, Way S f x := by
  obtain ⟨i0, hi, hz0, hz1, hz2⟩ := info_parts infoUidM
  have b1 := belowA w (.cells #[.string u.t, .string u.i] 28)
  have z1 := sizeA w (.cells #[.string u.t, .string u.i] 28)
  have A1 : AtE2 (w.alloc (.cells #[.string u.t, .string u.i] 28)) w.heap.size 0 u := ⟨by simp, by simp⟩
  have hz : w.heap.size < (w.alloc (.cells #[.string u.t, .string u.i] 28)).heap.size := by rw [z1]; omega
  have UP := upward_any es ao cap _ hl (hr.below b1)
  have HS := hide hS
  have HN := hide hN2
  have H12 := hide h12
  clear hr hS hN2 h12 z1
  unfold U2.val
  go_enter Try.func11, Try.ntmps11
  go_wp2_with fail
  generalize w.alloc _ = w1 at *
  refine UP.mono ?_
  clear UP
  rintro _ w2 ⟨b, rfl, hm, b2, hbb⟩
  have b02 := b1.trans (b2.mono b1.size)
  have A2 := A1.below b2 hz
  have hz2' : w.heap.size < w2.heap.size := Nat.lt_of_lt_of_le hz b2.size
  have b3 := belowA w2 (.cells #[.slice none 0 0] 30)
  obtain ⟨V, hVe⟩ : ∃ V, V = w2.heap.size := ⟨_, rfl⟩
  have hV3 : (w2.alloc (.cells #[.slice none 0 0] 30)).heap[V]? = some (.cells #[.slice none 0 0] 30 (0, 0)) := by rw [hVe]; exact heap_alloc_new w2 (.cells #[.slice none 0 0] 30)
  have b03 := b02.trans (b3.mono b02.size)
  have A3 := A2.below b3 hz2'
  have hm3 := hm.below b3 hm.lt
  have z3 := sizeA w2 (.cells #[.slice none 0 0] 30)
  obtain ⟨so, sc, hgot, hrow, hlowS, hSl⟩ := unhide HS u
  have L := run_lookU (t := 57) (e := 30) Try.underlying57 (.slice none 0 0) zeroUids hm3 u false
  rw [hgot] at L
  unfold U2.val at L
  have RE := reach_any S (upM es) b (S u) N so sc _ ((unhide HS).below b03) hm3 (hrow.below b03) hSl (fun ad e hne => Nat.lt_of_lt_of_le (hlowS ad e hne) b03.size) (unhide HN u) (unhide HN) (by omega)
  obtain ⟨a0, a1⟩ := A3
  simp only [Nat.zero_add] at a1
  clear hm hrow hlowS hgot A1 A2
  have HVE := hide hVe
  clear hVe
  go_wp2_with fail
  rw [← unhide HVE]
  have hV1 : w.heap.size ≤ V := by have := unhide HVE; omega
  have hV2 : V < (w2.alloc (.cells #[.slice none 0 0] 30)).heap.size := by have := unhide HVE; omega
  clear HVE z3
  generalize w2.alloc _ = w3 at *
  refine RE.mono ?_
  clear RE L a0 a1
  rintro _ w4 ⟨b4, mb, m, rfl, hmm, hmb, hI⟩
  have b04 := b03.trans (b4.mono b03.size)
  have hV4 := (b4.block V hV2).trans hV3
  have hV5' : V < w4.heap.size := Nat.lt_of_lt_of_le hV2 b4.size
  obtain ⟨w5, hrun, hIt, b5, z5⟩ := run_rangeU (t := 55) (e := 74) Try.underlying55 hmm
  have b05 := b04.trans (b5.mono b04.size)
  have hV5 := (b5.block V hV5').trans hV4
  obtain ⟨R, hRe⟩ : ∃ R, R = w4.heap.size := ⟨_, rfl⟩
  rw [← hRe] at hrun hIt z5
  have HI2 := hide hI
  have hA : AccR w w5 (R + 1) V R mb m m [] (.slice none 0 0) := ⟨b05, hV5, hIt, World.ownsRow_nil _ _ _ _, by omega, by omega, by have := hmm.lt; omega, hV1, by omega, fun e => by have := hmm.lt; omega⟩
  have HA := hide hA
  clear hA hIt hV3 hV4 hV5 hmm hI hm3 b1 b2 b3 b4 b5
  go_wp2_with fail
  rw [← hRe]
  clear hrun hRe
  go_loopw [7] (fun _ wr => ∃ (v : Value) (rest acc : List U2), AccR w wr (R + 1) V R mb m rest acc v ∧ (acc ++ rest).Perm m) (fun _ wr => restLen wr R)
  case atStart => exact ⟨_, m, [], unhide HA, List.Perm.refl _⟩
  case round =>
    clear HA
    obtain ⟨v, rest, acc, hA, hP⟩ := hrel
    rcases hA.it.next hA.rm 0 with ⟨rfl, hrun⟩ | ⟨i, hi, w6, hrun, hIt, hoth, hsz, hbl, hent⟩
    · rw [List.append_nil] at hP
      have hn49 := unhide H12 m (unhide HI2).nd fun x => reachI_end (unhide HI2) x
      have hnd : acc.Nodup := hP.nodup_iff.2 (unhide HI2).nd
      have hmem : ∀ x, x ∈ acc ↔ ∃ f ∈ S u, Way S f x := fun x => by rw [hP.mem_iff]; exact reachI_end (unhide HI2) x
      have h49 : acc.length ≤ 49 := by rw [hP.length_eq]; exact hn49
      by_cases h2 : acc.length ≤ 1
      · obtain ⟨vo, vc, e7, hr7, _, _⟩ := rowG_ownM (n := 2) (l := acc.map U2.cells) (fun c hc => by
          obtain ⟨x, _, rfl⟩ := List.mem_map.1 hc
          rfl) (by simpa using hA.own)
        rw [List.length_map] at e7
        subst e7
        have SS := fun W' => sortSliceTiny_any W' V acc.length vc vo h2
        have cV : wr.cell? ⟨V, 0, none⟩ = some (.slice vo acc.length vc) := by rw [Lib.cell_of_heap hA.cv]; rfl
        have hpw := pair_short h2
        have hb0 := hA.below
        have hVlt := hA.size
        have HF := hide (And.intro hr7 (And.intro hpw hmem))
        clear hpw hmem hnd hn49 hP hA hr7
        obtain ⟨n, hn⟩ : ∃ n, n = acc.length := ⟨_, rfl⟩
        rw [← hn] at SS cV
        have HN := hide hn
        clear hn h49 h2
        unfold lessV at SS
        go_wp2_with fail
        refine (SS _).mono ?_
        clear SS
        rintro _ w7 ⟨rfl, b7⟩
        have c7 : w7.cell? ⟨V, 0, none⟩ = some (.slice vo n vc) := (b7.cell (p := ⟨V, 0, none⟩) hVlt).trans cV
        have HB7 := hide b7
        clear b7 cV
        go_wp2
        go_ret
        refine ⟨hb0.trans ((unhide HB7).mono hb0.size), vo, vc, acc, ?_, RowG.below (unhide HF).1 (unhide HB7), (unhide HF).2.1, (unhide HF).2.2⟩
        rw [← unhide HN]
        rfl
      · have hlt2 : 2 ≤ acc.length := by omega
        obtain ⟨g, cp, rfl, hg, hcp, hat⟩ := rowU_own hA.own (j := 0) (by omega)
        have hSR : SR w w.heap.size V g cp acc.toArray wr := ⟨hA.below, hA.wV, by simpa using hA.cv, by
          have ho := hA.own
          refine ⟨by simpa using ho.1, ?_⟩
          have h2 := ho.2
          simp only [List.size_toArray]
          refine h2.imp id ?_
          rintro ⟨g, cap, cur, h1, hb, h3⟩
          exact ⟨g, cap, cur, h1, by have := hA.wV; have := hA.vB; omega, h3⟩⟩
        have SS := sortSliceG_any hSR (n := acc.length) (by simp) hlt2 h49
        have cV : wr.cell? ⟨V, 0, none⟩ = some (.slice (some ⟨g, 0, none⟩) acc.length cp) := by rw [Lib.cell_of_heap hA.cv]; rfl
        have HIR := hide (show ∀ dd : Array U2, PermIn 0 acc.length acc.toArray dd → SortedIn lessU 0 acc.length dd → dd.toList.Pairwise (fun a b => lessU a b = true) ∧ ∀ x, x ∈ dd.toList ↔ ∃ f ∈ S u, Way S f x from fun dd hp hs => by
          have h := rise_of (d := acc.toArray) (d' := dd) (by simpa using hnd) (by simpa using hp) (by simpa using hs)
          exact ⟨h.2, fun x => by rw [h.1.mem_iff]; exact hmem x⟩)
        clear hmem hnd hn49 hP hA hSR hat
        generalize acc.toArray = da at *
        generalize acc.length = n at *
        unfold lessV at SS
        go_wp2_with fail
        refine SS.mono ?_
        clear SS cV
        rintro _ w7 ⟨dd, hpd, hsd, rfl, hz7, hS7⟩
        have c7 : w7.cell? ⟨V, 0, none⟩ = some (.slice (some ⟨g, 0, none⟩) n cp) := by rw [Lib.cell_of_heap hS7.v, hz7]; rfl
        have HS7 := hide (And.intro hS7 (And.intro hz7 (unhide HIR dd hpd hsd)))
        clear hS7 hz7 hpd hsd HIR
        go_wp2
        go_ret
        obtain ⟨hS7, hz7, hI1, hI2⟩ := unhide HS7
        have hl7 : dd.toList.length = n := by simpa using hz7
        obtain ⟨ao7, cap7, e7, hr7, _, _⟩ := rowG_ownM (n := 2) (l := dd.toList.map U2.cells) (fun c hc => by
          obtain ⟨x, _, rfl⟩ := List.mem_map.1 hc
          rfl) (by simpa using hS7.own)
        refine ⟨hS7.below, ao7, cp, dd.toList, ?_, hr7, hI1, hI2⟩
        rw [hl7]
        injection e7 with e7
        rw [← e7]
        rfl
    · have HIL := hide (⟨hA.it.len, hIt.len⟩ : _ ∧ _)
      have hA6 := hA.next hA.rB hIt hoth hbl
      obtain ⟨x, hx⟩ : ∃ x, x = rest[i] := ⟨_, rfl⟩
      have HP := hide (show ((acc ++ [x]) ++ rest.eraseIdx i).Perm m from by
        refine List.Perm.trans ?_ hP
        rw [List.append_assoc]
        refine List.Perm.append_left acc ?_
        rw [hx]
        exact erase_perm rest i hi)
      have hk2 := hent w6 rfl rfl
      rw [← hx] at hrun hk2
      have hll : rest.length = (rest.eraseIdx i).length + 1 := by rw [List.length_eraseIdx_of_lt hi]; omega
      have HLL := hide hll
      have hal : acc.length + 1 ≤ 1000000 := by
        have h1 := hP.length_eq
        rw [List.length_append] at h1
        have h2 : m.length ≤ 49 := unhide H12 m (unhide HI2).nd fun x => reachI_end (unhide HI2) x
        omega
      generalize rest.eraseIdx i = rest' at *
      unfold U2.val at hrun hk2
      have HA := hide hA6
      clear hA hIt hoth hsz hbl hent hP hA6 hx hll hi
      go_upto_region 6 with fail
      have bX := belowA w6 (.cells #[.string x.t, .string x.i] 28)
      have hX7 := heap_alloc_new w6 (.cells #[.string x.t, .string x.i] 28)
      have hA7 := (unhide HA).grow bX
      clear hk2 hrun HA
      generalize w6.heap.size = X at *
      generalize w6.alloc _ = w7 at *
      have c0 : w7.cell? ⟨X, 0, none⟩ = some (.string x.t) := by rw [Lib.cell_of_heap hX7]; rfl
      have c1 : w7.cell? ⟨X, 1, none⟩ = some (.string x.i) := by rw [Lib.cell_of_heap hX7]; rfl
      have cV : w7.cell? ⟨V, 0, none⟩ = some v := by rw [Lib.cell_of_heap hA7.cv]; rfl
      have b8 := belowA w7 (.cells #[.string x.t, .string x.i] 28)
      have hRw : R + 1 ≤ w7.heap.size := hA7.it.lt.1
      have Hown := hide hA7.own
      have HA := hide (hA7.grow b8)
      clear hA7 hX7 bX b8
      go_wp2_with (at_builtin; refine wpList_append_own _ rfl _ _ 30 rfl (R + 1) 28 i0 _ 2 32 Try.underlying30 ‹Try.prog.info? 28 = some i0› hz0 hz1 hz2 rfl (by decide) _ _ _ rfl ((unhide Hown).alloc _) ⟨w7.heap.size, 0, none⟩ 1 1 x.cells rfl rfl ?dA ?eA ?fA ?gA ?hA ?_)
      case dA => exact newsU_rowM w7 x _ rfl
      case eA => exact cellsU_oneM x
      case fA => unfold maxLen; omega
      case gA => omega
      case hA => simp; omega
      intro v8 w8 hown8 hg8 _
      have hown8 : w8.ownsRow (R + 1) 28 2 v8 (acc ++ [x]).length ((acc ++ [x]).map U2.cells).flatten := by simpa using hown8
      obtain ⟨o8, c8, rfl, _⟩ := ownM_slice hown8
      have HF := hide ((unhide HA).push hg8 hown8)
      have k8 := (unhide HA).keep hg8
      have q6 : w8.cell? ⟨V, 0, none⟩ = some v := by rw [Lib.cell_of_heap k8]; rfl
      have q7 : w8.frozen? ⟨V, 0, none⟩ = false := Lib.frozen_of_heap k8 0
      rw [show (acc ++ [x]).length = acc.length + 1 by simp] at HF
      clear hown8 hg8 c0 c1 cV Hown HA k8
      go_wp2
      go_roundw
      case rel => exact ⟨_, rest', acc ++ [x], unhide HF, unhide HP⟩
      case measure =>
        have h1 := (unhide HF).it.len
        have h2 := (unhide HIL).1
        have h3 := unhide HLL
        omega
end Go.Proofs.Ythmmplmppchfmaa

namespace Go.Proofs.Ythmmplmppchfmaa
open Go.RowKit Go.Sort

/-- f tells whether steps lead from one to another. -/
def IsW (S : U2 → List U2) (f : U2 → U2 → Bool) : Prop := ∀ u x, f u x = true ↔ Way S u x
theorem isW_ex (S : U2 → List U2) : ∃ f, IsW S f := ⟨fun u x => @decide (Way S u x) (Classical.propDecidable _), fun _ _ => @decide_eq_true_iff _ (Classical.propDecidable _)⟩
/-- Good entities in memory. -/
structure G9 (w : World) (ao : Option Addr) (gs : List E4) (ps : List EntP) : Prop where
  row : RowG w ao 4 (gs.map E4.cells)
  all : AllEnt w (fun _ => True) gs ps
  gl : GL ps
theorem G9.below {w w' : World} {ao : Option Addr} {gs : List E4} {ps : List EntP} (h : G9 w ao gs ps) (hb : Below w.heap.size w w') : G9 w' ao gs ps := ⟨h.row.below hb, h.all.below hb, h.gl⟩
theorem G9.len {w : World} {ao : Option Addr} {gs : List E4} {ps : List EntP} (h : G9 w ao gs ps) : gs.length ≤ 12 := by rw [h.all.1]; exact h.gl.len
theorem G9.in9 {w : World} {ao : Option Addr} {gs : List E4} {ps : List EntP} (h : G9 w ao gs ps) {f : U2 → U2 → Bool} (hf : IsW (upS ps) f) (cap : Nat) (u a : U2) :
    Calls Try.prog 8 #[.slice ao gs.length cap, u.val, a.val] w fun e w' => e = .returned (.bool (f u a)) ∧ Below w.heap.size w w' := by
  refine (in_any (upS ps) gs ao cap u a (parsP ps) w (by have := h.len; omega) h.row (steps_up h.all h.gl.nd h.gl.ps1000) h.gl.up h.gl.pars).mono ?_
  rintro e w' ⟨hb, z, he, hz⟩
  have : z = f u a := by rw [Bool.eq_iff_iff, hz, hf u a]
  rw [← this]
  exact ⟨he, hb⟩
theorem G9.in9S {w : World} {ao : Option Addr} {gs : List E4} {ps : List EntP} {S : U2 → List U2} (h : G9 w ao gs ps) (hS : S = upS ps) {f : U2 → U2 → Bool} (hf : IsW S f) (cap : Nat) (u a : U2) :
    Calls Try.prog 8 #[.slice ao gs.length cap, u.val, a.val] w fun e w' => e = .returned (.bool (f u a)) ∧ Below w.heap.size w w' := by
  rw [hS] at hf
  exact h.in9 hf cap u a
/-- What Above tells of u. -/
def AbvOf (S : U2 → List U2) (u : U2) (l : List U2) : Prop := l.Pairwise (fun a b => lessU a b = true) ∧ ∀ x, x ∈ l ↔ ∃ f ∈ S u, Way S f x
theorem GL.above_len {ps : List EntP} (h : GL ps) {u : U2} {m : List U2} (hn : m.Nodup) (hm : ∀ x, x ∈ m ↔ ∃ f ∈ upS ps u, Way (upS ps) f x) : m.length ≤ 36 := by
  have h1 := nodup_le m (parsP ps) hn fun x hx => by
    obtain ⟨f, hf, hw⟩ := (hm x).1 hx
    cases hw with
    | here => exact h.up _ _ hf
    | step _ hx => exact h.up _ _ hx
  have h2 := flat_len3 ps h.ps
  have h3 := h.len
  omega
theorem G9.above9 {w : World} {ao : Option Addr} {gs : List E4} {ps : List EntP} (h : G9 w ao gs ps) (cap : Nat) (u : U2) :
    Calls Try.prog 11 #[.slice ao gs.length cap, u.val] w fun e w' => Below w.heap.size w w' ∧ ∃ (lo : Option Addr) (c : Nat) (l : List U2), e = .returned (.slice lo l.length c) ∧ RowG w' lo 2 (l.map U2.cells) ∧ AbvOf (upS ps) u l ∧ l.length ≤ 36 := by
  refine (aboveG_any (upS ps) gs ao cap u (parsP ps) w (by have := h.len; omega) h.row (steps_up h.all h.gl.nd h.gl.ps1000) h.gl.up h.gl.pars (fun m hn hm => by have := h.gl.above_len hn hm; omega)).mono ?_
  rintro e w' ⟨hb, lo, c, l, he, hr, hs, hm⟩
  have hn : l.Nodup := hs.imp fun {a b} h e => by rw [e, sto_lessU.irr] at h; cases h
  exact ⟨hb, lo, c, l, he, hr, ⟨hs, hm⟩, h.gl.above_len hn hm⟩
/-- The parents of one of them. -/
theorem G9.pars {w : World} {ao : Option Addr} {gs : List E4} {ps : List EntP} (h : G9 w ao gs ps) {i : Nat} (hi : i < gs.length) : ∃ l : List U2, l = upS ps (e4uM gs[i]) ∧ gs[i].pl = l.length ∧ RowG w gs[i].po 2 (l.map U2.cells) ∧ l.length ≤ 3 := by
  have hip : i < ps.length := by rw [← h.all.1]; exact hi
  have I := h.all.2 i hi hip
  refine ⟨ps[i].ps, ?_, I.pl, I.rowU, h.gl.ps _ (List.getElem_mem hip)⟩
  have hu : e4uM gs[i] = ps[i].u := I.u
  unfold upS
  rw [hu, find_mem h.gl.nd (List.getElem_mem hip)]
end Go.Proofs.Ythmmplmppchfmaa
