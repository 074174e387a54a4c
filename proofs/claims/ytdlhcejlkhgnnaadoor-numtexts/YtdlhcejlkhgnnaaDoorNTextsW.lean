/-
  chancellaw2.NumTexts returns true, for every int64 and string.
-/
import Derived.Test.YtdlhcejlkhgnnaaDoorNumK
import Derived.Test.YtdlhcejlkhgnnaaDoorNRefW
import Derived.Test.YtdlhcejlkhgnnaaDoorNRefT
import Derived.Lib.SmallJoins
namespace Go.Proofs.YtdlhcejlkhgnnaaDoor
open Go.RowKit

set_option maxHeartbeats 2000000 in
set_option maxRecDepth 100000 in
theorem numTexts_walk (a : Int) (s : ByteArray) (ha : InR a) (w : World) (ht : Lib.TabIs Tryd.prog w "internal/strconv.uint64pow10" .u64 Lib.pow10Tab) :
    Calls Tryd.prog 6 #[.int .i64 a, .string s] w fun e w' => e = .returned (.bool true) ∧ Below w.heap.size w w' := by
  by_cases hl : (200 : Int) < (s.size : Int)
  · go_enter Tryd.func6, Tryd.ntmps6
    go_wp2_with fail
    refine (known2_any _).mono ?_
    rintro e w1 ⟨rfl, rfl⟩
    go_wp2
    go_ret
    exact ⟨rfl, Below.refl _ _⟩
  · have P1 := parse_any s
    have P2 := rparse_any s (by omega)
    have r1 := pe_range s.data.toList
    generalize pv s.data.toList = n at *
    generalize pe s.data.toList = e0 at *
    obtain ⟨r10, r11⟩ := r1
    have T1 := text_any a ha
    have T2 := rtext_any a ha
    obtain ⟨t, hte⟩ : ∃ t : ByteArray, t = ⟨(Lib.itoa a).toArray⟩ := ⟨_, rfl⟩
    rw [← hte] at T1 T2
    have P3 := parse_any t
    have hd : t.data.toList = Lib.itoa a := by rw [hte]
    rw [hd] at P3
    by_cases h : a < 0
    · obtain ⟨p1, p2⟩ := parse_neg a h
      rw [p1, p2] at P3
      clear p1 p2 hd hte
      go_enter Tryd.func6, Tryd.ntmps6
      go_wp2_with fail
      refine (known2_any _).mono ?_
      rintro e w1 ⟨rfl, rfl⟩
      go_wp2_with fail
      refine (P1 _).mono ?_
      rintro e w2 ⟨rfl, b2⟩
      go_wp2_with fail
      refine (P2 _).mono ?_
      rintro e w3 ⟨rfl, rfl⟩
      go_wp2_with fail
      refine (T1 _ (Go.Joins.tab_stays (g := 0) (by kernel_rfl) ht b2 (Nat.le_refl _))).mono ?_
      rintro e w4 ⟨rfl, b4⟩
      go_wp2_with fail
      refine (T2 _).mono ?_
      rintro e w5 ⟨rfl, b5⟩
      have b24 := b2.trans (b4.mono b2.size)
      have b25 := b24.trans (b5.mono b24.size)
      go_wp2_with fail
      refine (P3 _).mono ?_
      rintro e w6 ⟨rfl, b6⟩
      have b26 := b25.trans (b6.mono b25.size)
      clear P1 P2 P3 T1 T2
      go_wp2
      go_ret
      exact ⟨rfl, b26⟩
    · obtain ⟨p1, p2⟩ := parse_pos a (by omega) ha
      rw [p1, p2] at P3
      clear p1 p2 hd hte
      go_enter Tryd.func6, Tryd.ntmps6
      go_wp2_with fail
      refine (known2_any _).mono ?_
      rintro e w1 ⟨rfl, rfl⟩
      go_wp2_with fail
      refine (P1 _).mono ?_
      rintro e w2 ⟨rfl, b2⟩
      go_wp2_with fail
      refine (P2 _).mono ?_
      rintro e w3 ⟨rfl, rfl⟩
      go_wp2_with fail
      refine (T1 _ (Go.Joins.tab_stays (g := 0) (by kernel_rfl) ht b2 (Nat.le_refl _))).mono ?_
      rintro e w4 ⟨rfl, b4⟩
      go_wp2_with fail
      refine (T2 _).mono ?_
      rintro e w5 ⟨rfl, b5⟩
      have b24 := b2.trans (b4.mono b2.size)
      have b25 := b24.trans (b5.mono b24.size)
      go_wp2_with fail
      refine (P3 _).mono ?_
      rintro e w6 ⟨rfl, b6⟩
      have b26 := b25.trans (b6.mono b25.size)
      clear P1 P2 P3 T1 T2
      go_wp2
      go_ret
      exact ⟨rfl, b26⟩
end Go.Proofs.YtdlhcejlkhgnnaaDoor
