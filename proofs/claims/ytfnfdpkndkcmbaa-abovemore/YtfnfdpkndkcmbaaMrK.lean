/-
  sort.Slice over a row of at most one uid, and over one of 13 to 49: what it does.
-/
import Derived.Test.YtfnfdpkndkcmbaaMrJ
import Derived.Test.YtfnfdpkndkcmbaaMqSV
namespace Go.Proofs.Ytfnfdpkndkcmbaa
open Go.RowKit Go.Sort

set_option maxHeartbeats 1000000 in
set_option maxRecDepth 1000000 in
theorem insTiny_any (W : World) (lv sv : Value) (n : Nat) (h1 : n ≤ 1) : Calls Try.prog 50 #[.agg #[lv, sv], .int .i64 0, .int .i64 n] W fun e W' => e = .returned (.tuple #[]) ∧ Below W.heap.size W W' := by
  have k1 : ¬ (1 : Int) < (n : Int) := by omega
  have b1 := belowA W (.cells #[lv, sv] 83)
  go_enter Try.func50, Try.ntmps50
  go_wp2
  refine wp_loop_rounds 1 ?_
  rw [rounds_succ]
  go_wp2
  refine bodyPost_end (v := .tuple #[]) (by simp [results, Try.results50, go_sem]) rfl ?_
  exact ⟨rfl, b1⟩
set_option maxHeartbeats 1000000 in
set_option maxRecDepth 1000000 in
theorem pdqTiny_any (W : World) (lv sv : Value) (n : Nat) (h1 : n ≤ 1) (lim : Int) : Calls Try.prog 33 #[.agg #[lv, sv], .int .i64 0, .int .i64 n, .int .i64 lim] W fun e W' => e = .returned (.tuple #[]) ∧ Below W.heap.size W W' := by
  have b1 := belowA W (.cells #[lv, sv] 83)
  have hbx := heap_alloc_new W (.cells #[lv, sv] 83)
  have IN := insTiny_any (W.alloc (.cells #[lv, sv] 83)) lv sv n h1
  have k1 : (n : Int) ≤ 12 := by omega
  have k2 : (0 : Int) ≤ (n : Int) := by omega
  have c0 : (W.alloc (.cells #[lv, sv] 83)).cell? ⟨W.heap.size, 0, none⟩ = some lv := by rw [Lib.cell_of_heap hbx]; rfl
  have c1 : (W.alloc (.cells #[lv, sv] 83)).cell? ⟨W.heap.size, 1, none⟩ = some sv := by rw [Lib.cell_of_heap hbx]; rfl
  clear hbx
  go_enter Try.func33, Try.ntmps33
  go_wp2
  refine wp_loop_rounds 1 ?_
  rw [rounds_succ]
  go_wp2_with fail
  refine IN.mono ?_
  clear IN
  rintro _ W' ⟨rfl, hB⟩
  have HB := hide (b1.trans (hB.mono b1.size))
  clear hB b1
  go_wp2
  (try simp only [Exit.inBlock, Exit.then])
  refine bodyPost_ret (v := .tuple #[]) (by simp [results, Try.results33, go_sem]) rfl ?_
  exact ⟨rfl, unhide HB⟩

set_option maxHeartbeats 4000000 in
set_option maxRecDepth 1000000 in
theorem sortSliceTiny_any (W : World) (V n cap : Nat) (ao : Option Addr) (h1 : n ≤ 1) :
    Calls Try.prog 19 #[.iface 30 (.slice ao n cap), lessV V] W fun e W' => e = .returned (.tuple #[]) ∧ Below W.heap.size W W' := by
  obtain ⟨i0, hi0, hd0⟩ : ∃ i0, Try.prog.info? 30 = some i0 ∧ i0.desc = .slice 28 := ⟨_, rfl, rfl⟩
  obtain ⟨ie, hie, hpt, hby⟩ : ∃ ie, Try.prog.info? 28 = some ie ∧ ie.hasPointers = true ∧ ie.bytes = 32 := ⟨_, rfl, rfl, rfl⟩
  obtain ⟨sv, fs, hsv, hfs⟩ : ∃ (sv : Value) (fs : Nat), sv = .func (.func fs) #[] #[] ∧ (∀ w : World, (Extern.ReflectliteSwapper.swapper "internal/reflectlite" (Extern.ReflectliteValue.valueError "Swapper") #[.iface 30 (.slice ao n cap)]).run Try.prog w = .ok sv w) := by
    have hke : ∀ w, (Extern.Rtype.kind 28).run Try.prog w = .ok 25 w := fun w => by kernel_rfl
    rcases (show n = 0 ∨ n = 1 by omega) with rfl | rfl
    · exact ⟨_, 39, rfl, fun w => Lib.run_swapper_slice (P := Try.prog) 30 28 i0 ie hi0 hd0 hie 25 hke ao 0 cap 39 (by kernel_rfl) w⟩
    · exact ⟨_, 40, rfl, fun w => Lib.run_swapper_slice (P := Try.prog) 30 28 i0 ie hi0 hd0 hie 25 hke ao 1 cap 40 (by kernel_rfl) w⟩
  have hv := Lib.run_valueOf_slice (P := Try.prog) 30 28 i0 hi0 hd0 ao n cap W
  have hs := hfs
  have hl := fun a w ha => Lib.run_valueLen_slice (P := Try.prog) 30 28 i0 hi0 hd0 rfl a ao n cap w ha
  have hb := fun w => bits_any n (by omega) w
  have hp := fun W' (lim : Int) => pdqTiny_any W' (.func (.func 20) #[] #[.pointer (some ⟨V, 0, none⟩)]) sv n h1 lim
  have wr : IntKind.u64.wrap (n : Int) = n := by simp [IntKind.wrap, IntKind.bits, IntKind.signed]; omega
  simp only [typeHandle, show Try.prog.globals.size = 0 from rfl] at hv hl
  clear hpt hby hi0 hd0 hie hfs
  rw [hsv] at hs hp
  clear hsv
  unfold lessV at *
  go_enter Try.func19, Try.ntmps19
  go_wp2
  rw [run_callFunc_extern Try.func29 (by kernel_rfl) (by kernel_rfl) (by kernel_rfl) (e := fun args => Extern.ReflectliteValue.unpack (args.getD 0 (.tuple #[]))) (by kernel_rfl),
    show Sem.run Try.prog ((fun args : Array Value => Extern.ReflectliteValue.unpack (args.getD 0 (.tuple #[]))) #[.iface 30 (.slice ao n cap)]) W = _ from hv]
  simp only [Result.andThen]
  rw [Oper.upon_value]
  go_wp2
  rw [run_callFunc_extern Try.func30 (by kernel_rfl) (by kernel_rfl) (by kernel_rfl) (e := Extern.ReflectliteSwapper.swapper "internal/reflectlite" (Extern.ReflectliteValue.valueError "Swapper")) (by kernel_rfl), hs]
  simp only [Result.andThen]
  rw [Oper.upon_value]
  go_wp2
  rw [run_callFunc_extern Try.func31 (by kernel_rfl) (by kernel_rfl) (by kernel_rfl) (e := Extern.ReflectliteValue.method (Extern.ReflectliteValue.valueError "reflectlite.Value.Len" 0) Extern.ReflectliteValue.len) (by kernel_rfl),
    hl _ _ (by simp)]
  simp only [Result.andThen]
  rw [Oper.upon_value]
  go_wp2_with fail
  refine (hb _).mono ?_
  rintro _ _ ⟨⟨lim, rfl⟩, rfl⟩
  go_wp2_with fail
  refine (hp _ lim).mono ?_
  rintro _ W' ⟨rfl, hB⟩
  have HB := hide ((belowA _ _).trans (((belowA _ _).trans (hB.mono (belowA _ _).size)).mono (belowA _ _).size))
  clear hB
  go_wp2
  refine bodyPost_end (v := .tuple #[]) (by simp [results, Try.results19, go_sem]) rfl ?_
  exact ⟨rfl, unhide HB⟩

set_option maxHeartbeats 4000000 in
set_option maxRecDepth 1000000 in
theorem sortSliceBig_any {w W : World} {B V g cap n : Nat} {d : Array U2} (h : SR w B V g cap d W) (hn : d.size = n) (h13 : 13 ≤ n) (h49 : n ≤ 49) :
    Calls Try.prog 19 #[.iface 30 (.slice (some ⟨g, 0, none⟩) n cap), lessV V] W fun e W' => ∃ d', PermIn 0 n d d' ∧ SortedIn lessU 0 n d' ∧ e = .returned (.tuple #[]) ∧ d'.size = n ∧ SR w B V g cap d' W' := by
  obtain ⟨i0, hi0, hd0⟩ : ∃ i0, Try.prog.info? 30 = some i0 ∧ i0.desc = .slice 28 := ⟨_, rfl, rfl⟩
  obtain ⟨ie, hie, hpt, hby⟩ : ∃ ie, Try.prog.info? 28 = some ie ∧ ie.hasPointers = true ∧ ie.bytes = 32 := ⟨_, rfl, rfl, rfl⟩
  have hk : Lib.swapperK n ie 25 = 9 := by
    unfold Lib.swapperK
    rw [hpt, hby]
    have a0 : (n == 0) = false := by simp; omega
    have a1 : (n == 1) = false := by simp; omega
    rw [a0, a1]
    rfl
  obtain ⟨th, hth⟩ : ∃ th, th = typeHandle Try.prog 28 := ⟨_, rfl⟩
  have hke : ∀ w, (Extern.Rtype.kind 28).run Try.prog w = .ok 25 w := fun w => by kernel_rfl
  have hv := Lib.run_valueOf_slice (P := Try.prog) 30 28 i0 hi0 hd0 (some ⟨g, 0, none⟩) n cap W
  have hs := fun w => Lib.run_swapper_slice (P := Try.prog) 30 28 i0 ie hi0 hd0 hie 25 hke (some ⟨g, 0, none⟩) n cap 47 (by rw [hk]; kernel_rfl) w
  rw [hk] at hs
  have hl := fun a w ha => Lib.run_valueLen_slice (P := Try.prog) 30 28 i0 hi0 hd0 rfl a (some ⟨g, 0, none⟩) n cap w ha
  have hb := fun w => bits_len n h13 (by omega) w
  have hp := fun W' (hb : Below W.heap.size W W') (lim : Nat) (hlim : lim ≤ 1000) => sortPdq_any hth h49 (n + 1) W' d 0 n lim (by omega) (h.grow hb) hn (Nat.zero_le _) (Nat.le_refl _) hlim (.inl rfl)
  have wr : IntKind.u64.wrap (n : Int) = n := by simp [IntKind.wrap, IntKind.bits, IntKind.signed]; omega
  simp only [typeHandle, show Try.prog.globals.size = 0 from rfl] at hv hl
  unfold swapV at hp
  rw [show ((0 : Nat) : Int) = 0 from rfl] at hp
  rw [← hth] at hs
  clear hke hk hpt hby h hi0 hd0 hie hth
  unfold lessV at *
  go_enter Try.func19, Try.ntmps19
  go_wp2
  rw [run_callFunc_extern Try.func29 (by kernel_rfl) (by kernel_rfl) (by kernel_rfl) (e := fun args => Extern.ReflectliteValue.unpack (args.getD 0 (.tuple #[]))) (by kernel_rfl),
    show Sem.run Try.prog ((fun args : Array Value => Extern.ReflectliteValue.unpack (args.getD 0 (.tuple #[]))) #[.iface 30 (.slice (some ⟨g, 0, none⟩) n cap)]) W = _ from hv]
  simp only [Result.andThen]
  rw [Oper.upon_value]
  go_wp2
  rw [run_callFunc_extern Try.func30 (by kernel_rfl) (by kernel_rfl) (by kernel_rfl) (e := Extern.ReflectliteSwapper.swapper "internal/reflectlite" (Extern.ReflectliteValue.valueError "Swapper")) (by kernel_rfl), hs]
  simp only [Result.andThen]
  rw [Oper.upon_value]
  go_wp2
  rw [run_callFunc_extern Try.func31 (by kernel_rfl) (by kernel_rfl) (by kernel_rfl) (e := Extern.ReflectliteValue.method (Extern.ReflectliteValue.valueError "reflectlite.Value.Len" 0) Extern.ReflectliteValue.len) (by kernel_rfl),
    hl _ _ (by simp)]
  simp only [Result.andThen]
  rw [Oper.upon_value]
  go_wp2_with fail
  refine (hb _).mono ?_
  rintro _ _ ⟨⟨lim, rfl, _, hlim⟩, rfl⟩
  go_wp2_with fail
  refine (hp _ ?_ lim (by omega)).mono ?_
  · exact (belowA _ _).trans ((belowA _ _).mono (belowA _ _).size)
  rintro _ W' ⟨d', hp1, hs1, rfl, hz, hS, _⟩
  have HS := hide hS
  have HZ := hide hz
  clear hS hz
  go_wp2
  refine bodyPost_end (v := .tuple #[]) (by simp [results, Try.results19, go_sem]) rfl ?_
  exact ⟨d', hp1, hs1, rfl, unhide HZ, unhide HS⟩
end Go.Proofs.Ytfnfdpkndkcmbaa
