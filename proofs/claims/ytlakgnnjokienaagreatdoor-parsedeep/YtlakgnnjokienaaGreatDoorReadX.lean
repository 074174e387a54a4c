/-
  text.readOne and text.Read: what they return, for all bytes.
-/
import Derived.Test.YtlakgnnjokienaaGreatDoorReadW
import Derived.Test.YtlakgnnjokienaaGreatDoorBuild
namespace Go.Proofs.YtlakgnnjokienaaGreatDoor
open Go.RowKit

set_option maxHeartbeats 1000000 in
theorem readOne_any (s : ByteArray) (r : Int) (w : World) (hs : s.size ≤ 1099511627776) :
    Calls Tryz.prog 67 #[.string s, .int .i32 r] w fun e w' => e = .returned (.tuple #[.int .i32 (oneX s.data.toList r).1, .int .i64 (oneX s.data.toList r).2.1, .int .i64 (oneX s.data.toList r).2.2]) ∧ Below w.heap.size w w' := by
  by_cases h1 : r < 32
  · have e1 : oneX s.data.toList r = (0, 0, 12) := if_pos h1
    have E1 := hide e1
    clear e1
    go_enter Tryz.func67, Tryz.ntmps67
    go_wp2
    go_ret3
    rw [unhide E1]
    exact ⟨rfl, Below.refl _ _⟩
  · by_cases h2 : r = 92
    · subst h2
      have e1 : oneX s.data.toList 92 = escL s.data.toList := rfl
      rw [e1]
      clear e1
      go_enter Tryz.func67, Tryz.ntmps67
      go_wp2_with fail
      refine (escape_any s _ hs).mono ?_
      rintro e w1 ⟨rfl, b1⟩
      generalize hq : escL s.data.toList = q
      obtain ⟨q1, q2, q3⟩ := q
      have HQ := hide hq
      clear hq
      go_wp2
      go_ret3
      rw [unhide HQ]
      exact ⟨rfl, b1⟩
    · have e1 : oneX s.data.toList r = (r, Lib.runeLen r, 0) := by unfold oneX; rw [if_neg h1, if_neg h2]
      have E1 := hide e1
      have hb : (r == 92) = false := by simp [h2]
      clear e1
      go_enter Tryz.func67, Tryz.ntmps67
      go_wp2_with fail
      refine (Tryz.utf8_RuneLen _ _).mono ?_
      rintro e w1 ⟨rfl, rfl⟩
      go_wp2
      go_ret3
      rw [unhide E1]
      exact ⟨rfl, Below.refl _ _⟩

theorem ret_read {a a' : List UInt8} {b b' c c' : Int} (h : (a, b, c) = (a', b', c')) : Ending.returned (.tuple #[.string ⟨a.toArray⟩, .int .i64 b, .int .i64 c]) = .returned (.tuple #[.string ⟨a'.toArray⟩, .int .i64 b', .int .i64 c']) := by
  cases h
  rfl

set_option maxHeartbeats 4000000 in
set_option maxRecDepth 1000000 in
theorem read_any (s : ByteArray) (w : World) (hs : s.size ≤ 1099511627776) :
    Calls Tryz.prog 55 #[.string s] w fun e w' => e = .returned (.tuple #[.string ⟨(rd s.data.toList).1.toArray⟩, .int .i64 (rd s.data.toList).2.1, .int .i64 (rd s.data.toList).2.2]) ∧ Below w.heap.size w w' := by
  cases hp : Lib.hasPrefix s.data.toList [34]
  · have e1 : rd s.data.toList = ([], 0, 12) := by unfold rd; rw [hp]; rfl
    have E1 := hide e1
    have HP := hide hp
    clear e1 hp
    go_enter Tryz.func55, Tryz.ntmps55
    go_wp2_with fail
    refine (Tryz.strings_HasPrefix _ _ _).mono ?_
    rintro e w1 ⟨rfl, rfl⟩
    rw [show Lib.hasPrefix s.data.toList _ = false from unhide HP]
    go_wp2
    go_ret3
    rw [unhide E1]
    exact ⟨rfl, Below.refl _ _⟩
  · have e1 : rd s.data.toList = rdL (s.data.toList.drop 1) [] 1 := by unfold rd; rw [hp]; rfl
    have hp2 := hp
    unfold Lib.hasPrefix at hp2
    rw [List.isPrefixOf_iff_prefix] at hp2
    obtain ⟨t, ht⟩ := hp2
    have hsz1 : 1 ≤ s.size := by rw [Lib.size_eq, ← ht]; simp
    have hs0 : ∀ h : 0 < s.size, s[0].toNat < 128 := fun h => by
      rw [byte_at s 0 h, ← ht]
      show (34 : UInt8).toNat < 128
      decide
    have E1 := hide e1
    have HP := hide hp
    have HS0 := hide hs0
    clear e1 hp hs0 ht
    go_enter Tryz.func55, Tryz.ntmps55
    go_wp2_with fail
    refine (Tryz.strings_HasPrefix _ _ _).mono ?_
    rintro e w1 ⟨rfl, rfl⟩
    rw [show Lib.hasPrefix s.data.toList _ = true from unhide HP]
    go_wp2
    go_loopw [6] (fun nv wr => ∃ (pos nx : Nat) (acc : List UInt8), pos ≤ nx ∧ nx ≤ s.size ∧ nv = .int .i64 nx ∧ (∀ j (_ : j < s.size), pos ≤ j → j < nx → s[j].toNat < 128) ∧ Lib.IsBuilderF 95 5 w1.heap.size w1.heap.size (Lib.byteCells acc) wr ∧ wr.heap[w1.heap.size + 1]? = some (.stringIter s pos) ∧ Below w1.heap.size w1 wr ∧ acc.length ≤ 4 * nx ∧
      rdL (s.data.toList.drop nx) acc nx = rd s.data.toList) (fun _ wr => s.size - wr.iterPos (w1.heap.size + 1))
    case atStart =>
      refine ⟨0, 1, [], by omega, hsz1, rfl, ?_, (Lib.IsBuilderF.of (Lib.fresh_isBuilder 95 5 w1)).alloc _, ?_, ((Below.refl _ w1).alloc (Nat.le_refl _) _).alloc (by simp) _, by simp, (unhide E1).symm⟩
      · intro j hj _ hj1
        have hj0 : j = 0 := by omega
        subst hj0
        exact unhide HS0 hj
      · have := World.iter_heap (w1.alloc (.cells #[.pointer none, .slice none 0 0] 95)) s 0
        simpa using this
    case round =>
      obtain ⟨pos, nx, acc, hpn, hns, rfl, hasc, hI, hit, hbw, hal, hacc⟩ := hrel
      have HASC := hide hasc
      have Hacc := hide hacc
      clear hasc hacc
      have hsz : w1.heap.size + 1 < wr.heap.size := (Array.getElem?_eq_some_iff.1 hit).1
      by_cases hlt : pos < s.size
      · have hnx : ∀ ty, (Instr.next (.pointer (some ⟨w1.heap.size + 1, 0, none⟩)) true ty).run Tryz.prog wr = _ := fun ty => Lib.run_next_any_at wr (w1.heap.size + 1) s pos ty hit hlt
        by_cases hsk : pos < nx
        · -- within what was read
          have hdec := decode_ascii s pos hlt (unhide HASC pos hlt (Nat.le_refl _) hsk)
          rw [hdec] at hnx
          simp only [] at hnx
          have hit2 := Lib.iterAt_heap wr (w1.heap.size + 1) s pos (pos + 1) hit
          have hI2 := hI.iterAt hit (pos + 1)
          have hbw2 := Lib.below_iterAt hbw (k := w1.heap.size + 1) (by omega) s (pos + 1)
          clear hdec
          go_wp2
          go_roundw
          case rel =>
            exact ⟨pos + 1, nx, acc, by omega, hns, rfl, fun j hj h1 h2 => unhide HASC j hj (by omega) h2, hI2, hit2, hbw2, hal, unhide Hacc⟩
          case measure =>
            simp only [World.iterPos, hit2, hit]
            omega
        · have hpe : nx = pos := by omega
          subst hpe
          have hne := drop_ne hlt
          have hst := rdL_cons (s.data.toList.drop nx) acc nx hne
          rw [unhide Hacc, Lib.decodeL_drop] at hst
          have HST := hide hst
          have hwd := Lib.decode_width_pos s nx hlt
          have hmx := dec_max_at s nx
          have hle := dec_in hlt
          have hit2 := Lib.iterAt_heap wr (w1.heap.size + 1) s nx (nx + (Utf8.decode s nx).2) hit
          have hI2 := hI.iterAt hit (nx + (Utf8.decode s nx).2)
          have hbw2 := Lib.below_iterAt hbw (k := w1.heap.size + 1) (by omega) s (nx + (Utf8.decode s nx).2)
          have hsz2 : w1.heap.size ≤ (wr.iterAt (w1.heap.size + 1) s (nx + (Utf8.decode s nx).2)).heap.size := by rw [Lib.iterAt_size]; omega
          clear hst hpn
          by_cases h34 : (Utf8.decode s nx).1 = 34
          · have e2 : rd s.data.toList = (acc, (nx : Int) + 1, 0) := by rw [unhide HST, if_pos h34]
            have E2 := hide e2
            clear e2
            go_wp2_with fail
            refine (Tryz.Builder_String_any_k w1.heap.size w1.heap.size acc _ hI2 hsz2).mono ?_
            rintro e W1 ⟨rfl, _, b1, _⟩
            go_wp2
            go_ret3
            rw [unhide E2]
            exact ⟨rfl, hbw2.trans b1⟩
          · have hb34 : (((Utf8.decode s nx).1 : Int) == 34) = false := by simp; omega
            have hbr := broken_eq _ hne
            rw [Lib.decodeL_drop] at hbr
            have HBR := hide hbr
            clear hbr
            go_wp2_with fail
            refine (broken_any s nx _ hns _).mono ?_
            rintro e W1 ⟨rfl, rfl⟩
            rw [unhide HBR]
            cases hbad : badHead (s.data.toList.drop nx)
            · -- a rune: one, or an escape
              have hone := oneL_pos _ hne hbad
              have hox := oneX_eq (s.data.toList.drop nx)
              rw [Lib.decodeL_drop] at hox
              have hst2 : rd s.data.toList = if (oneL (s.data.toList.drop nx)).2.2 = 0 then rdL ((s.data.toList.drop nx).drop (oneL (s.data.toList.drop nx)).2.1.toNat) (acc ++ Lib.encodeRune (oneL (s.data.toList.drop nx)).1) ((nx : Int) + (oneL (s.data.toList.drop nx)).2.1) else ([], 0, (oneL (s.data.toList.drop nx)).2.2) := by
                have h := unhide HST
                rw [if_neg h34, hbad] at h
                simpa using h
              have hwid : (oneL (s.data.toList.drop nx)).2.2 = 0 → ((Utf8.decode s nx).1 ≠ 92 ∧ (oneL (s.data.toList.drop nx)).2.1 = ((Utf8.decode s nx).2 : Int)) ∨ ((Utf8.decode s nx).1 = 92 ∧ oneL (s.data.toList.drop nx) = escL (s.data.toList.drop nx)) := fun h0 => by
                have hd := Lib.decodeL_drop s nx
                unfold oneL at h0 ⊢
                rw [hd] at h0 ⊢
                by_cases c32 : (Utf8.decode s nx).1 < 32
                · rw [if_pos c32] at h0
                  cases h0
                · rw [if_neg c32]
                  by_cases c92 : (Utf8.decode s nx).1 = 92
                  · rw [if_pos c92]
                    exact .inr ⟨c92, rfl⟩
                  · rw [if_neg c92]
                    refine .inl ⟨c92, ?_⟩
                    have := runeLen_dec _ hbad
                    rw [hd] at this
                    exact this
              have HST2 := hide hst2
              have HWID := hide hwid
              have HOX := hide hox
              clear hst2 hwid hox hbad
              have hez : (s.extract nx s.size).size ≤ 1099511627776 := by rw [ByteArray.size_extract]; omega
              have hel : (s.extract nx s.size).data.toList = s.data.toList.drop nx := by
                rw [extract_list, List.take_of_length_le (by rw [List.length_drop, ← Lib.size_eq]; exact Nat.le_refl _)]
              have HEL := hide hel
              clear hel
              go_wp2_with fail
              refine (readOne_any _ _ _ hez).mono ?_
              rintro e W2 ⟨rfl, b2⟩
              rw [unhide HEL, unhide HOX]
              have hI3 := builder_below b2 hI2
              have hit3 := kept_of_below b2 hit2
              have hbw3 := hbw2.trans (b2.mono (by rw [Lib.iterAt_size]; omega))
              have hsz3 : w1.heap.size ≤ W2.heap.size := Nat.le_trans hsz2 b2.size
              clear hI2 hbw2
              generalize hq : oneL (s.data.toList.drop nx) = q at *
              have HQ := hide hq
              clear hq
              obtain ⟨q1, q2, q3⟩ := q
              simp only [] at HST2 HWID hone ⊢
              by_cases h0 : q3 = 0
              · subst h0
                obtain ⟨g1, g2, g3⟩ := hone rfl
                rw [List.length_drop, ← Lib.size_eq] at g2
                have hq1 : -2147483648 ≤ q1 ∧ q1 ≤ 2147483647 := by
                  have : (0 ≤ q1 ∧ q1 < 0xD800) ∨ (0xDFFF < q1 ∧ q1 ≤ 0x10FFFF) := of_decide_eq_true g3
                  omega
                obtain ⟨q1a, q1b⟩ := hq1
                clear hone g3
                go_wp2_with fail
                refine (writeRune w1.heap.size w1.heap.size _ _ q1a q1b _ hI3 (by rw [Lib.byteCells_length]; omega) hsz3).mono ?_
                rintro e W3 ⟨rfl, hI4, b3, k3⟩
                have hit4 := k3.iter hit3 (by omega)
                have hen := encodeRune_len q1
                go_wp2
                go_roundw
                case rel =>
                  obtain ⟨z, rfl⟩ := Int.eq_ofNat_of_zero_le (show 0 ≤ q2 by omega)
                  have hw := unhide HWID (by trivial)
                  have h92 : (Utf8.decode s nx).1 = 92 → (Utf8.decode s nx).2 = 1 ∧ s[nx] = 92 := fun h => by
                    by_cases ha : s[nx].toNat < 128
                    · have hd := decode_ascii s nx hlt ha
                      rw [hd] at h ⊢
                      exact ⟨rfl, UInt8.toNat_inj.1 h⟩
                    · have := (decode_high s nx hlt (by omega)).1
                      omega
                  refine ⟨nx + (Utf8.decode s nx).2, nx + z, acc ++ Lib.encodeRune q1, ?_, by omega, by go_num, ?_, ?_, hit4, hbw3.trans b3, by rw [List.length_append]; omega, ?_⟩
                  · rcases hw with ⟨_, e⟩ | ⟨e, _⟩
                    · omega
                    · have := (h92 e).1
                      omega
                  · intro j hj hj1 hj2
                    rcases hw with ⟨_, e⟩ | ⟨e, e'⟩
                    · omega
                    · obtain ⟨hw1, hc92⟩ := h92 e
                      have hgd : ∀ i (hi : nx + i < s.size), (s.data.toList.drop nx).getD i 0 = s[nx + i] := fun i hi => by
                        rw [byte_at s (nx + i) hi, Lib.getD_dropU]
                      have hx : escL (s.data.toList.drop nx) = (q1, (z : Int), 0) := e'.symm
                      have := escL_ascii (s.data.toList.drop nx) (by rw [hgd 0 hlt]; exact hc92) (by rw [hx]) (j - nx) (by rw [hx]; show ((j - nx : Nat) : Int) < (z : Int); omega)
                      rw [hgd (j - nx) (by omega)] at this
                      have ej : nx + (j - nx) = j := by omega
                      simpa [ej] using this
                  · rw [Lib.byteCells_append, Lib.byteCells_encodeRune]
                    exact Or.inr hI4
                  · rw [unhide HST2, if_pos (by trivial), List.drop_drop, Int.toNat_natCast]
                    congr 1
                case measure =>
                  simp only [World.iterPos, hit4, hit]
                  omega
              · have e2 : rd s.data.toList = ([], 0, q3) := by rw [unhide HST2, if_neg h0]
                have E2 := hide e2
                have hb0 : (q3 == 0) = false := by simp [h0]
                clear e2 hone
                go_wp2
                go_ret3
                rw [unhide E2]
                exact ⟨rfl, hbw3⟩
            · have e2 : rd s.data.toList = ([], 0, 11) := by rw [unhide HST, if_neg h34, hbad]; rfl
              have E2 := hide e2
              clear e2 hbad
              go_wp2
              go_ret3
              rw [unhide E2]
              exact ⟨rfl, hbw2⟩
      · have hnx : ∀ ty, (Instr.next (.pointer (some ⟨w1.heap.size + 1, 0, none⟩)) true ty).run Tryz.prog wr = _ := fun ty => Lib.run_next_end_at wr (w1.heap.size + 1) s pos ty hit hlt
        have hpe : nx = s.size := by omega
        have e2 : rd s.data.toList = ([], 0, 12) := by
          rw [← unhide Hacc, drop_end (by omega)]
          rfl
        have E2 := hide e2
        clear e2
        go_wp2
        go_ret3
        rw [unhide E2]
        exact ⟨rfl, hbw⟩
end Go.Proofs.YtlakgnnjokienaaGreatDoor
