/-
  chancelref4.letter, figure, blank, sign: what they return.
-/
import Derived.Test.YtfkbbenjmhngcaaDoorLexK
import Derived.Test.YtfkbbenjmhngcaaDoorLexQ
import Derived.Test.YtfkbbenjmhngcaaDoorRefB
import Derived.BigQuiet
namespace Go.Proofs.YtfkbbenjmhngcaaDoor
open Go.RowKit

set_option maxHeartbeats 1000000 in
set_option maxRecDepth 1000000 in
theorem letter_any (r : Int) (w : World) : Calls Tryd.prog 45 #[.int .u8 r] w fun e w' => e = .returned (.bool (letR r)) ∧ w' = w := by
  by_cases h1 : 97 ≤ r
  · by_cases h2 : r ≤ 122
    · have e : letR r = true := by simp [letR, h1, h2]
      rw [e]
      go_enter Tryd.func45, Tryd.ntmps45
      go_wp2
      go_ret
      exact ⟨rfl, rfl⟩
    · have h3 : 65 ≤ r := by omega
      have h4 : ¬ r ≤ 90 := by omega
      have h5 : ¬ r = 95 := by omega
      have hb : (r == 95) = false := by simpa using h5
      have e : letR r = false := by simp [letR, h2, h4, h5]
      rw [e]
      go_enter Tryd.func45, Tryd.ntmps45
      go_wp2
      go_ret
      exact ⟨rfl, rfl⟩
  · by_cases h3 : 65 ≤ r
    · by_cases h4 : r ≤ 90
      · have e : letR r = true := by simp [letR, h3, h4]
        rw [e]
        go_enter Tryd.func45, Tryd.ntmps45
        go_wp2
        go_ret
        exact ⟨rfl, rfl⟩
      · by_cases h5 : r = 95
        · subst h5
          go_enter Tryd.func45, Tryd.ntmps45
          go_wp2
          go_ret
          exact ⟨rfl, rfl⟩
        · have hb : (r == 95) = false := by simpa using h5
          have e : letR r = false := by simp [letR, h1, h4, h5]
          rw [e]
          go_enter Tryd.func45, Tryd.ntmps45
          go_wp2
          go_ret
          exact ⟨rfl, rfl⟩
    · have h5 : ¬ r = 95 := by omega
      have hb : (r == 95) = false := by simpa using h5
      have e : letR r = false := by simp [letR, h1, h3, h5]
      rw [e]
      go_enter Tryd.func45, Tryd.ntmps45
      go_wp2
      go_ret
      exact ⟨rfl, rfl⟩

set_option maxHeartbeats 1000000 in
set_option maxRecDepth 1000000 in
theorem figure_any (r : Int) (w : World) : Calls Tryd.prog 46 #[.int .u8 r] w fun e w' => e = .returned (.bool (digR r)) ∧ w' = w := by
  by_cases h1 : 48 ≤ r
  · by_cases h2 : r ≤ 57
    · have e : digR r = true := decide_eq_true ⟨h1, h2⟩
      rw [e]
      go_enter Tryd.func46, Tryd.ntmps46
      go_wp2
      go_ret
      exact ⟨rfl, rfl⟩
    · have e : digR r = false := decide_eq_false (fun h => h2 h.2)
      rw [e]
      go_enter Tryd.func46, Tryd.ntmps46
      go_wp2
      go_ret
      exact ⟨rfl, rfl⟩
  · have e : digR r = false := decide_eq_false (fun h => h1 h.1)
    rw [e]
    go_enter Tryd.func46, Tryd.ntmps46
    go_wp2
    go_ret
    exact ⟨rfl, rfl⟩

theorem eqb (a b : UInt8) : (a == b) = ((b.toNat : Int) == (a.toNat : Int)) := by
  rw [Bool.eq_iff_iff, beq_iff_eq, beq_iff_eq]
  constructor
  · rintro rfl
    rfl
  · intro h
    exact UInt8.toNat_inj.1 (by omega)
def one16 (b : UInt8) : Int := if ((b.toNat : Int) == 40 || ((b.toNat : Int) == 41 || ((b.toNat : Int) == 123 || ((b.toNat : Int) == 125 || ((b.toNat : Int) == 91 || ((b.toNat : Int) == 93 || ((b.toNat : Int) == 44 || ((b.toNat : Int) == 59 || ((b.toNat : Int) == 58 || ((b.toNat : Int) == 46 || ((b.toNat : Int) == 60 || ((b.toNat : Int) == 62 || ((b.toNat : Int) == 33 || ((b.toNat : Int) == 43 || ((b.toNat : Int) == 45 || ((b.toNat : Int) == 42 || false)))))))))))))))) = true then 1 else 0
def two8 (u : List UInt8) (z : Int) : Int := if (u == [58, 58]) = true then 2 else if (u == [61, 61]) = true then 2 else if (u == [33, 61]) = true then 2 else if (u == [60, 61]) = true then 2 else if (u == [62, 61]) = true then 2 else if (u == [38, 38]) = true then 2 else if (u == [124, 124]) = true then 2 else if (u == [45, 62]) = true then 2 else z
def oneF (l : List UInt8) : Tk := signF l (sgns.drop 8)
theorem oneF_z (b : UInt8) (r : List UInt8) : ((oneF (b :: r)).z : Int) = one16 b := by
  have key : ∀ (gs : List UInt8), ((signF (b :: r) (gs.map fun g => [g])).z : Int) = if gs.any (fun g => (b.toNat : Int) == (g.toNat : Int)) then 1 else 0 := by
    intro gs
    induction gs with
    | nil => rfl
    | cons g t ih =>
      rw [List.map_cons, signF, List.any_cons]
      have e : Lib.hasPrefix (b :: r) [g] = ((b.toNat : Int) == (g.toNat : Int)) := by
        rw [← eqb]
        simp [Lib.hasPrefix, List.isPrefixOf]
      rw [e]
      cases ((b.toNat : Int) == (g.toNat : Int))
      · simpa using ih
      · rfl
  have := key [40, 41, 123, 125, 91, 93, 44, 59, 58, 46, 60, 62, 33, 43, 45, 42]
  rw [show oneF (b :: r) = signF (b :: r) (List.map (fun g => [g]) [40, 41, 123, 125, 91, 93, 44, 59, 58, 46, 60, 62, 33, 43, 45, 42]) from rfl, this]
  simp only [List.any_cons, List.any_nil, show ((40 : UInt8).toNat : Int) = 40 from rfl, show ((41 : UInt8).toNat : Int) = 41 from rfl, show ((123 : UInt8).toNat : Int) = 123 from rfl, show ((125 : UInt8).toNat : Int) = 125 from rfl, show ((91 : UInt8).toNat : Int) = 91 from rfl, show ((93 : UInt8).toNat : Int) = 93 from rfl, show ((44 : UInt8).toNat : Int) = 44 from rfl, show ((59 : UInt8).toNat : Int) = 59 from rfl, show ((58 : UInt8).toNat : Int) = 58 from rfl, show ((46 : UInt8).toNat : Int) = 46 from rfl, show ((60 : UInt8).toNat : Int) = 60 from rfl, show ((62 : UInt8).toNat : Int) = 62 from rfl, show ((33 : UInt8).toNat : Int) = 33 from rfl, show ((43 : UInt8).toNat : Int) = 43 from rfl, show ((45 : UInt8).toNat : Int) = 45 from rfl, show ((42 : UInt8).toNat : Int) = 42 from rfl]
  rfl

theorem signF_one (b : UInt8) : signT [b] = oneF [b] := by
  simp [signT, signF, sgns, oneF, Lib.hasPrefix, List.isPrefixOf]
theorem signF_two (b c : UInt8) (r : List UInt8) : ((signT (b :: c :: r)).z : Int) = two8 [b, c] (one16 b) := by
  rw [← oneF_z b (c :: r)]
  have key : ∀ g h : UInt8, Lib.hasPrefix (b :: c :: r) [g, h] = ([b, c] == [g, h]) := by
    intro g h
    rw [Bool.eq_iff_iff]
    simp only [Lib.hasPrefix, List.isPrefixOf, Bool.and_true, Bool.and_eq_true, beq_iff_eq, List.cons.injEq, and_true]
    constructor
    · rintro ⟨rfl, rfl⟩
      exact ⟨rfl, rfl⟩
    · rintro ⟨rfl, rfl⟩
      exact ⟨rfl, rfl⟩
  have h2 : signT (b :: c :: r) = if Lib.hasPrefix (b :: c :: r) [58, 58] = true then ⟨4, [58, 58], 0, 2, 0⟩ else if Lib.hasPrefix (b :: c :: r) [61, 61] = true then ⟨4, [61, 61], 0, 2, 0⟩ else if Lib.hasPrefix (b :: c :: r) [33, 61] = true then ⟨4, [33, 61], 0, 2, 0⟩ else if Lib.hasPrefix (b :: c :: r) [60, 61] = true then ⟨4, [60, 61], 0, 2, 0⟩ else if Lib.hasPrefix (b :: c :: r) [62, 61] = true then ⟨4, [62, 61], 0, 2, 0⟩ else if Lib.hasPrefix (b :: c :: r) [38, 38] = true then ⟨4, [38, 38], 0, 2, 0⟩ else if Lib.hasPrefix (b :: c :: r) [124, 124] = true then ⟨4, [124, 124], 0, 2, 0⟩ else if Lib.hasPrefix (b :: c :: r) [45, 62] = true then ⟨4, [45, 62], 0, 2, 0⟩ else oneF (b :: c :: r) := rfl
  rw [h2]
  simp only [key, two8]
  repeat (split <;> first | rfl | skip)

set_option maxHeartbeats 4000000 in
set_option maxRecDepth 1000000 in
theorem sign_one (s : ByteArray) (i : Nat) (hlt : i < s.size) (h2 : ¬ i + 1 < s.size) (hs : s.size ≤ 1048576) (w : World) :
    Calls Tryd.prog 50 #[.string s, .int .i64 i] w fun e w' => e = .returned (.int .i64 (signT (s.data.toList.drop i)).z) ∧ w' = w := by
  have i2 : ¬ (i : Int) + 1 < (s.size : Int) := by omega
  have hd : s.data.toList.drop i = [s[i]] := by
    rw [drop_at s i hlt, drop_end (by omega)]
  have key : ((signT (s.data.toList.drop i)).z : Int) = one16 s[i] := by rw [hd, signF_one, oneF_z]
  unfold one16 at key
  have Hk := hide key
  clear key hd
  go_enter Tryd.func50, Tryd.ntmps50
  go_wp2
  all_goals (
    go_ret
    refine ⟨ret_int ?_, rfl⟩
    rw [unhide Hk]
    simp [*])

set_option maxHeartbeats 4000000 in
set_option maxRecDepth 1000000 in
theorem sign_two (s : ByteArray) (i : Nat) (hlt : i + 1 < s.size) (hs : s.size ≤ 1048576) (w : World) :
    Calls Tryd.prog 50 #[.string s, .int .i64 i] w fun e w' => e = .returned (.int .i64 (signT (s.data.toList.drop i)).z) ∧ w' = w := by
  have i2 : (i : Int) + 1 < (s.size : Int) := by omega
  have hlt0 : i < s.size := by omega
  have hd : s.data.toList.drop i = s[i] :: s[i + 1] :: s.data.toList.drop (i + 1 + 1) := by
    rw [drop_at s i hlt0, drop_at s (i + 1) hlt]
  obtain ⟨u, hu⟩ : ∃ u : ByteArray, u = s.extract i (i + 2) := ⟨_, rfl⟩
  have hul : u.toList = [s[i], s[i + 1]] := by
    rw [ByteArray.toList_eq, hu, extract_list, hd, show i + 2 - i = 2 by omega]
    rfl
  have key : ((signT (s.data.toList.drop i)).z : Int) = two8 u.toList (one16 s[i]) := by rw [hd, signF_two, hul]
  have hsl : ∀ W, (Instr.slice 9 (.string s) (some (.int .i64 (i : Int))) (some (.int .i64 ((i : Int) + 2))) none).run Tryd.prog W = .ok (.string u) W := fun W => by
    have := run_slice_string W 9 s .i64 .i64 (i : Int) ((i : Int) + 2) Tryd.underlying9 (by omega) (by omega) (by omega)
    rw [this, show ((i : Int) + 2).toNat = i + 2 by omega, Int.toNat_natCast, hu]
  unfold two8 one16 at key
  have Hk := hide key
  clear key hd hul hu
  rcases Bool.eq_false_or_eq_true (u.toList == [58, 58]) with h0 | h0
  · go_enter Tryd.func50, Tryd.ntmps50
    go_wp2
    go_ret
    refine ⟨ret_int ?_, rfl⟩
    rw [unhide Hk]
    simp [h0]
  rcases Bool.eq_false_or_eq_true (u.toList == [61, 61]) with h1 | h1
  · go_enter Tryd.func50, Tryd.ntmps50
    go_wp2
    go_ret
    refine ⟨ret_int ?_, rfl⟩
    rw [unhide Hk]
    simp [h0, h1]
  rcases Bool.eq_false_or_eq_true (u.toList == [33, 61]) with h2 | h2
  · go_enter Tryd.func50, Tryd.ntmps50
    go_wp2
    go_ret
    refine ⟨ret_int ?_, rfl⟩
    rw [unhide Hk]
    simp [h0, h1, h2]
  rcases Bool.eq_false_or_eq_true (u.toList == [60, 61]) with h3 | h3
  · go_enter Tryd.func50, Tryd.ntmps50
    go_wp2
    go_ret
    refine ⟨ret_int ?_, rfl⟩
    rw [unhide Hk]
    simp [h0, h1, h2, h3]
  rcases Bool.eq_false_or_eq_true (u.toList == [62, 61]) with h4 | h4
  · go_enter Tryd.func50, Tryd.ntmps50
    go_wp2
    go_ret
    refine ⟨ret_int ?_, rfl⟩
    rw [unhide Hk]
    simp [h0, h1, h2, h3, h4]
  rcases Bool.eq_false_or_eq_true (u.toList == [38, 38]) with h5 | h5
  · go_enter Tryd.func50, Tryd.ntmps50
    go_wp2
    go_ret
    refine ⟨ret_int ?_, rfl⟩
    rw [unhide Hk]
    simp [h0, h1, h2, h3, h4, h5]
  rcases Bool.eq_false_or_eq_true (u.toList == [124, 124]) with h6 | h6
  · go_enter Tryd.func50, Tryd.ntmps50
    go_wp2
    go_ret
    refine ⟨ret_int ?_, rfl⟩
    rw [unhide Hk]
    simp [h0, h1, h2, h3, h4, h5, h6]
  rcases Bool.eq_false_or_eq_true (u.toList == [45, 62]) with h7 | h7
  · go_enter Tryd.func50, Tryd.ntmps50
    go_wp2
    go_ret
    refine ⟨ret_int ?_, rfl⟩
    rw [unhide Hk]
    simp [h0, h1, h2, h3, h4, h5, h6, h7]
  have Hk2 := unhide Hk
  simp only [h0, h1, h2, h3, h4, h5, h6, h7, Bool.false_eq_true, if_false] at Hk2
  have Hk3 := hide Hk2
  clear Hk2 Hk
  go_enter Tryd.func50, Tryd.ntmps50
  go_wp2
  all_goals (
    go_ret
    refine ⟨ret_int ?_, rfl⟩
    rw [unhide Hk3]
    simp [*])

theorem sign_any (s : ByteArray) (i : Nat) (hlt : i < s.size) (hs : s.size ≤ 1048576) (w : World) :
    Calls Tryd.prog 50 #[.string s, .int .i64 i] w fun e w' => e = .returned (.int .i64 (signT (s.data.toList.drop i)).z) ∧ w' = w := by
  by_cases h : i + 1 < s.size
  · exact sign_two s i h hs w
  · exact sign_one s i hlt h hs w
end Go.Proofs.YtfkbbenjmhngcaaDoor
