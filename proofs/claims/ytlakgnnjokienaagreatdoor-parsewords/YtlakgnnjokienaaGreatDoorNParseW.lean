/-
  num.isNumber and num.Parse: what they return, for all bytes.
-/
import Derived.Test.YtlakgnnjokienaaGreatDoorNumW
import Derived.Test.YtlakgnnjokienaaGreatDoorPlainAll
import Derived.Test.YtlakgnnjokienaaGreatDoorNShelf
import Derived.BigCall
import Derived.Lib.OthersKept
import Derived.Lib.RuneCount
import Derived.WalkSmall
namespace Go.Proofs.YtlakgnnjokienaaGreatDoor
open Go.RowKit

set_option maxHeartbeats 1000000 in
set_option maxRecDepth 100000 in
theorem isNumber_any (s : ByteArray) (w : World) :
    Calls Tryz.prog 63 #[.string s] w fun e w' => e = .returned (.bool (numOk s.data.toList)) ∧ Below w.heap.size w w' := by
  go_enter Tryz.func63, Tryz.ntmps63
  go_wp2
  go_loopw [] (fun wr => ∃ (pos : Nat), pos ≤ s.size ∧ wr.heap[w.heap.size]? = some (.stringIter s pos) ∧ Below w.heap.size w wr ∧ (s.data.toList.drop pos).all digB = s.data.toList.all digB) (fun wr => s.size - wr.iterPos w.heap.size)
  case atStart =>
    refine ⟨0, Nat.zero_le _, ?_, (Below.refl _ w).alloc (Nat.le_refl _) _, by simp⟩
    have := World.iter_heap w s 0
    simpa using this
  case round =>
    obtain ⟨pos, hpp, hit, hbw, hacc⟩ := hrel
    have Hacc := hide hacc
    clear hacc
    by_cases hlt : pos < s.size
    · have hnx : ∀ ty, (Instr.next (.pointer (some ⟨w.heap.size, 0, none⟩)) true ty).run Tryz.prog wr = _ := fun ty => Lib.run_next_any_at wr w.heap.size s pos ty hit hlt
      rcases rune_at hlt with ⟨d, hd, hdec, hall, _⟩ | ⟨hd, hall⟩
      · rw [hdec] at hnx
        have HA := hide hall
        clear hall hdec
        have hit2 := Lib.iterAt_heap wr w.heap.size s pos (pos + 1) hit
        have hbw2 := Lib.below_iterAt hbw (k := w.heap.size) (Nat.le_refl _) s (pos + 1)
        have c1 : ¬ (((d + 48 : Nat) : Int) < 48) := by omega
        have c2 : ¬ (57 < ((d + 48 : Nat) : Int)) := by omega
        go_wp2
        go_roundw
        case rel =>
          exact ⟨pos + 1, by omega, hit2, hbw2, by rw [← unhide Hacc, unhide HA]⟩
        case measure =>
          simp only [World.iterPos, hit2, hit]
          omega
      · have hf : numOk s.data.toList = false := by
          unfold numOk
          rw [← unhide Hacc, hall]
          rfl
        have hbw2 := Lib.below_iterAt hbw (k := w.heap.size) (Nat.le_refl _) s (pos + (Utf8.decode s pos).2)
        generalize Utf8.decode s pos = rn at *
        obtain ⟨r, n⟩ := rn
        simp only [] at hd hbw2 hnx
        have HF := hide hf
        clear hf hall
        rcases hd with hd | hd
        · have c1 : ((r : Nat) : Int) < 48 := by omega
          go_wp2
          go_ret
          exact ⟨ret_bool (unhide HF).symm, hbw2⟩
        · have c1 : ¬ (((r : Nat) : Int) < 48) := by omega
          have c2 : 57 < ((r : Nat) : Int) := by omega
          go_wp2
          go_ret
          exact ⟨ret_bool (unhide HF).symm, hbw2⟩
    · have hnx : ∀ ty, (Instr.next (.pointer (some ⟨w.heap.size, 0, none⟩)) true ty).run Tryz.prog wr = _ := fun ty => Lib.run_next_end_at wr w.heap.size s pos ty hit hlt
      have hall : s.data.toList.all digB = true := by rw [← unhide Hacc, drop_done hlt]; rfl
      go_wp2_with (first | (go_at_call 40; refine (Tryz.strings_HasPrefix _ _ _).mono ?_; rintro e w' ⟨rfl, rfl⟩))
      · go_ret
        have h := ‹s.toList = [48]›
        rw [ByteArray.toList_eq] at h
        refine ⟨ret_bool ?_, hbw⟩
        rw [h]
        decide
      · go_ret
        have h := ‹s.toList = []›
        rw [ByteArray.toList_eq] at h
        refine ⟨ret_bool ?_, hbw⟩
        rw [h]
        decide
      · go_ret
        refine ⟨ret_bool ?_, hbw⟩
        unfold numOk
        rw [hall, ByteArray.toList_eq]
        cases s.data.toList <;> rfl

set_option maxHeartbeats 600000 in
set_option maxRecDepth 100000 in
theorem parse_any (s : ByteArray) (w : World) :
    Calls Tryz.prog 54 #[.string s] w fun e w' => e = .returned (.tuple #[.int .i64 (pv s.data.toList), .int .i64 (pe s.data.toList)]) ∧ Below w.heap.size w w' := by
  cases hn : numOk s.data.toList
  · rw [pv_no hn, pe_no hn]
    have HN := hide hn
    clear hn
    go_enter Tryz.func54, Tryz.ntmps54
    go_wp2_with fail
    refine (isNumber_any s _).mono ?_
    rintro e w1 ⟨rfl, b1⟩
    rw [unhide HN]
    go_wp2
    go_ret2
    exact ⟨rfl, b1⟩
  · rw [pv_ok hn, pe_ok hn]
    have hal := numOk_all hn
    have HN := hide hn
    clear hn
    generalize hV : valF 0 s.data.toList = V
    go_enter Tryz.func54, Tryz.ntmps54
    go_wp2_with fail
    refine (isNumber_any s _).mono ?_
    rintro e w1 ⟨rfl, b1⟩
    rw [unhide HN]
    go_wp2
    go_loopw [4] (fun nn wr => ∃ (pos n : Nat), nn = .int .i64 n ∧ n ≤ 9223372036854775807 ∧ pos ≤ s.size ∧ wr.heap[w1.heap.size]? = some (.stringIter s pos) ∧ Below w1.heap.size w1 wr ∧ (s.data.toList.drop pos).all digB = true ∧ valF n (s.data.toList.drop pos) = V) (fun _ wr => s.size - wr.iterPos w1.heap.size)
    case atStart =>
      refine ⟨0, 0, by go_num, by omega, Nat.zero_le _, ?_, (Below.refl _ w1).alloc (Nat.le_refl _) _, by simpa using hal, by simpa using hV⟩
      have := World.iter_heap w1 s 0
      simpa using this
    case round =>
      obtain ⟨pos, n, rfl, hn, hpp, hit, hbw, hacc, hval⟩ := hrel
      have Hacc := hide hacc
      have Hval := hide hval
      have HV := hide hV
      have HAL := hide hal
      clear hacc hval hV hal
      by_cases hlt : pos < s.size
      · have hnx : ∀ ty, (Instr.next (.pointer (some ⟨w1.heap.size, 0, none⟩)) true ty).run Tryz.prog wr = _ := fun ty => Lib.run_next_any_at wr w1.heap.size s pos ty hit hlt
        rcases rune_at hlt with ⟨d, hd, hdec, hall, hstep⟩ | ⟨_, hall⟩
        · obtain ⟨r, hr⟩ : ∃ r : Nat, r = d + 48 := ⟨_, rfl⟩
          obtain ⟨t, ht⟩ : ∃ t : Int, t = (n : Int) * 10 := ⟨_, rfl⟩
          rw [hdec, ← hr] at hnx
          have HA := hide hall
          have HS := hide hstep
          clear hall hdec hstep
          have hit2 := Lib.iterAt_heap wr w1.heap.size s pos (pos + 1) hit
          have hbw2 := Lib.below_iterAt hbw (k := w1.heap.size) (Nat.le_refl _) s (pos + 1)
          have M := mul_any (n : Int) 10 ⟨by omega, by omega⟩ ⟨by decide, by decide⟩
          rw [← ht] at M
          have r0 : 48 ≤ (r : Int) := by omega
          have r1 : (r : Int) ≤ 57 := by omega
          have HR := hide hr
          have HT := hide ht
          by_cases hm : InR t
          · rw [nv_ok hm, ne_ok hm] at M
            have A := add_any t ((r : Int) - 48) hm ⟨by omega, by omega⟩
            by_cases ha : InR (t + ((r : Int) - 48))
            · rw [nv_ok ha, ne_ok ha] at A
              obtain ⟨ha0, ha1⟩ := ha
              obtain ⟨hm0, hm1⟩ := hm
              clear hr ht
              go_wp2_with fail
              refine (M _).mono ?_
              rintro e w2 ⟨rfl, rfl⟩
              go_wp2_with fail
              refine (A _).mono ?_
              rintro e w3 ⟨rfl, rfl⟩
              go_wp2
              go_roundw
              case rel =>
                refine ⟨pos + 1, 10 * n + d, by rw [show t + ((r : Int) - 48) = ((10 * n + d : Nat) : Int) from by have := unhide HR; have := unhide HT; omega], by have := unhide HR; have := unhide HT; omega, by omega, hit2, hbw2, by rw [← unhide HA]; exact unhide Hacc, ?_⟩
                rw [← unhide HS]
                exact unhide Hval
              case measure =>
                simp only [World.iterPos, hit2, hit]
                omega
            · rw [nv_no ha, ne_no ha] at A
              have ho : ¬ InR (V : Int) := valF_over (n := 10 * n + d) (l := s.data.toList.drop (pos + 1)) (by rw [← unhide HS]; exact unhide Hval) (by unfold InR at ha hm; omega)
              have HO := hide ho
              obtain ⟨hm0, hm1⟩ := hm
              clear ha ho hr ht
              go_wp2_with fail
              refine (M _).mono ?_
              rintro e w2 ⟨rfl, rfl⟩
              go_wp2_with fail
              refine (A _).mono ?_
              rintro e w3 ⟨rfl, rfl⟩
              go_wp2
              go_ret2
              refine ⟨?_, b1.trans (hbw2.mono b1.size)⟩
              rw [nv_no (unhide HO), ne_no (unhide HO)]
              rfl
          · rw [nv_no hm, ne_no hm] at M
            have ho : ¬ InR (V : Int) := valF_over (n := 10 * n + d) (l := s.data.toList.drop (pos + 1)) (by rw [← unhide HS]; exact unhide Hval) (by unfold InR at hm; omega)
            have HO := hide ho
            clear hm ho hr ht
            go_wp2_with fail
            refine (M _).mono ?_
            rintro e w2 ⟨rfl, rfl⟩
            go_wp2
            go_ret2
            refine ⟨?_, b1.trans (hbw2.mono b1.size)⟩
            rw [nv_no (unhide HO), ne_no (unhide HO)]
            rfl
        · rw [unhide Hacc] at hall
          cases hall
      · have hnx : ∀ ty, (Instr.next (.pointer (some ⟨w1.heap.size, 0, none⟩)) true ty).run Tryz.prog wr = _ := fun ty => Lib.run_next_end_at wr w1.heap.size s pos ty hit hlt
        have hVn : n = V := by
          have := unhide Hval
          rw [drop_done hlt] at this
          exact this
        have hin : InR (V : Int) := ⟨by omega, by omega⟩
        have HI := hide hin
        have HE := hide hVn
        clear hin hVn
        go_wp2
        go_ret2
        refine ⟨?_, b1.trans (hbw.mono b1.size)⟩
        rw [nv_ok (unhide HI), ne_ok (unhide HI), ← unhide HE]
        rfl
end Go.Proofs.YtlakgnnjokienaaGreatDoor
