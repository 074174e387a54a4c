/-
 Plain facts: what is encoded is decoded as it was; a rune's bytes cut at either end are none (no program in it).
 chancelref1's Is, put, Of; chancellaw1's same and Of: what they return.
 strconv.FormatInt(n, 16) for 0 <= n < 256: one or two digits; nothing that was there turns.
 chancelref1.Of; chancellaw1's same and Of: what they return.
 chancellaw1.Of: the text that it makes of numbers.
-/
import Derived.Test.YtagnbpobcijakaaRunesPW
import Derived.Laws.BitsAllLaws
import Derived.Laws.IdiomStrings
import Derived.BigQuiet
import Derived.Deep.QuietTactic
import Derived.Test.YtagnbpobcijakaaRows
import Derived.Test.YtagnbpobcijakaaPlain
import Derived.WalkKit
import Derived.BigCall
import Derived.Handy
namespace Go.Proofs.Ytagnbpobcijakaa
open Go

/-- The runes out of which chancellaw1.Of makes its texts. -/
def some22 : List Int := [97, 98, 42, 34, 92, 10, 9, 1, 31, 127, 128, 233, 2047, 2048, 8364, 55295, 57344, 65533, 65535, 65536, 128512, 1114111]
def pick (z : Int) : Int := some22.getD (z % 22).toNat 0
def picks (zs : List Int) : List Int := (zs.take 40).map pick
def txt (zs : List Int) : List UInt8 := ofL (picks zs)

theorem some22_ok : some22.all Lib.validRune = true := by decide
theorem pick_mem (z : Int) : pick z ∈ some22 := by
 have h0 := Int.emod_nonneg z (show (22 : Int) ≠ 0 by decide)
 have h1 := Int.emod_lt_of_pos z (show (0 : Int) < 22 by decide)
 have h2 : (z % 22).toNat < some22.length := by show _ < 22; omega
 unfold pick
 rw [List.getD, List.getElem?_eq_getElem h2]
 exact List.getElem_mem h2
theorem pick_ok (z : Int) : Lib.validRune (pick z) = true := List.all_eq_true.1 some22_ok _ (pick_mem z)
theorem picks_ok (zs : List Int) : ofOk (picks zs) = true := by
 unfold ofOk picks
 rw [List.all_eq_true]
 intro x hx
 obtain ⟨z, _, rfl⟩ := List.mem_map.1 hx
 exact pick_ok z
theorem picks_len (zs : List Int) : (picks zs).length ≤ 40 := by simp [picks]; omega
end Go.Proofs.Ytagnbpobcijakaa

namespace Go.Proofs.Ytagnbpobcijakaa
open Go.RowKit

theorem i32_and63 (x : Int) (h0 : 0 ≤ x) (h1 : x < 2147483648) : bits .and .i32 x 63 = x % 64 := bits_mask .i32 31 (by decide) wraps_i32 6 (by decide) x h0 h1
theorem b63 (x : Int) (h0 : 0 ≤ x) (h1 : x < 2147483648) : bits .or .u8 128 (bits .and .i32 x 63 % 256) = 128 + x % 64 := by
 rw [i32_and63 x h0 h1, show x % 64 % 256 = x % 64 from by omega]
 exact u8_or128 _ (by omega) (by omega)

set_option maxHeartbeats 1000000 in
theorem is_any (r : Int) (w : World) :
  Calls Try.prog 69 #[.int .i32 r] w fun e w' => e = .returned (.bool (Lib.validRune r)) ∧ w' = w := by
 by_cases h : (0 ≤ r ∧ r < 55296) ∨ (57343 < r ∧ r ≤ 1114111)
 ·have hv : Lib.validRune r = true := decide_eq_true h
  rw [hv]
  clear hv
  rcases h with ⟨h1, h2⟩ | ⟨h1, h2⟩
  ·go_enter Try.func69, Try.ntmps69
   go_wp2
   go_ret
   refine ⟨ret_bool ?_, rfl⟩
   simp
   try omega
  ·go_enter Try.func69, Try.ntmps69
   go_wp2
   go_ret
   refine ⟨ret_bool ?_, rfl⟩
   simp
   try omega
 ·have hv : Lib.validRune r = false := decide_eq_false h
  rw [hv]
  clear hv
  have h' : r < 0 ∨ 1114111 < r ∨ (55296 ≤ r ∧ r ≤ 57343) := by omega
  clear h
  rcases h' with h1 | h1 | ⟨h1, h2⟩
  ·go_enter Try.func69, Try.ntmps69
   go_wp2
   go_ret
   refine ⟨ret_bool ?_, rfl⟩
   simp
   try omega
  ·go_enter Try.func69, Try.ntmps69
   go_wp2
   go_ret
   refine ⟨ret_bool ?_, rfl⟩
   simp
   try omega
  ·go_enter Try.func69, Try.ntmps69
   go_wp2
   go_ret
   refine ⟨ret_bool ?_, rfl⟩
   simp
   try omega

set_option maxHeartbeats 4000000 in
set_option maxRecDepth 100000 in
theorem put_one (B : Nat) (v : Value) (n : Nat) (xs : List Value) (r : Int) (h0 : 0 ≤ r) (h1 : r < 128) (w : World) (hown : w.ownsRow B 5 1 v n xs) (hlen : n + 4 ≤ 140737488355328) (hBw : B ≤ w.heap.size) :
  Calls Try.prog 70 #[v, .int .i32 r] w fun e w' => ∃ v', e = .returned v' ∧ w'.ownsRow B 5 1 v' (n + 1) (xs ++ [.int .u8 (r)]) ∧ ∃ o, (w.alloc o).grownBy w' v.ownBlock := by
 obtain ⟨i0, hi, hz0, hz1, hz2⟩ := info_parts infoByte
 go_enter Try.func70, Try.ntmps70
 go_wp2_with (at_builtin; refine wpList_append_own _ rfl _ _ 102 rfl B 5 i0 (.int .u8 0) 1 1 Try.underlying102 hi hz0 hz1 hz2 rfl (by decide) _ _ _ rfl (hown.alloc _) ⟨w.heap.size, 0, none⟩ 1 1 [.int .u8 (r)] rfl rfl ?c1 ?c2 ?c3 ?c4 ?c5 ?_)
 case c1 =>
  intro j u hj
  match j, hj with
  | 0, hj => simp at hj; subst hj; simp [Addr.add]
 case c2 => intro u hu; simp at hu; subst hu; rfl
 case c3 => unfold maxLen; omega
 case c4 => omega
 case c5 => simp; omega
 intro v' w2 hown' hgrow _
 go_wp2
 go_ret
 exact ⟨_, rfl, hown', _, hgrow⟩

set_option maxHeartbeats 4000000 in
set_option maxRecDepth 100000 in
theorem put_two (B : Nat) (v : Value) (n : Nat) (xs : List Value) (r : Int) (h0 : 128 ≤ r) (h1 : r < 2048) (w : World) (hown : w.ownsRow B 5 1 v n xs) (hlen : n + 4 ≤ 140737488355328) (hBw : B ≤ w.heap.size) :
  Calls Try.prog 70 #[v, .int .i32 r] w fun e w' => ∃ v', e = .returned v' ∧ w'.ownsRow B 5 1 v' (n + 2) (xs ++ [.int .u8 (192 + r / 64), .int .u8 (128 + r % 64)]) ∧ ∃ o, (w.alloc o).grownBy w' v.ownBlock := by
 obtain ⟨i0, hi, hz0, hz1, hz2⟩ := info_parts infoByte
 go_enter Try.func70, Try.ntmps70
 go_wp2_with (at_builtin; refine wpList_append_own _ rfl _ _ 102 rfl B 5 i0 (.int .u8 0) 1 1 Try.underlying102 hi hz0 hz1 hz2 rfl (by decide) _ _ _ rfl (hown.alloc _) ⟨w.heap.size, 0, none⟩ 2 2 [.int .u8 (192 + r / 64), .int .u8 (128 + r % 64)] rfl rfl ?c1 ?c2 ?c3 ?c4 ?c5 ?_)
 case c1 =>
  intro j u hj
  match j, hj with
  | 0, hj => simp at hj; subst hj; simp [Addr.add]
  | 1, hj => simp at hj; subst hj; simp [Addr.add]; exact b63 _ (by omega) (by omega)
  | (j + 2), hj => simp at hj
 case c2 => intro u hu; simp at hu; rcases hu with rfl | rfl <;> rfl
 case c3 => unfold maxLen; omega
 case c4 => omega
 case c5 => simp; omega
 intro v' w2 hown' hgrow _
 go_wp2
 go_ret
 exact ⟨_, rfl, hown', _, hgrow⟩

set_option maxHeartbeats 4000000 in
set_option maxRecDepth 100000 in
theorem put_three (B : Nat) (v : Value) (n : Nat) (xs : List Value) (r : Int) (h0 : 2048 ≤ r) (h1 : r < 65536) (w : World) (hown : w.ownsRow B 5 1 v n xs) (hlen : n + 4 ≤ 140737488355328) (hBw : B ≤ w.heap.size) :
  Calls Try.prog 70 #[v, .int .i32 r] w fun e w' => ∃ v', e = .returned v' ∧ w'.ownsRow B 5 1 v' (n + 3) (xs ++ [.int .u8 (224 + r / 4096), .int .u8 (128 + r / 64 % 64), .int .u8 (128 + r % 64)]) ∧ ∃ o, (w.alloc o).grownBy w' v.ownBlock := by
 obtain ⟨i0, hi, hz0, hz1, hz2⟩ := info_parts infoByte
 go_enter Try.func70, Try.ntmps70
 go_wp2_with (at_builtin; refine wpList_append_own _ rfl _ _ 102 rfl B 5 i0 (.int .u8 0) 1 1 Try.underlying102 hi hz0 hz1 hz2 rfl (by decide) _ _ _ rfl (hown.alloc _) ⟨w.heap.size, 0, none⟩ 3 3 [.int .u8 (224 + r / 4096), .int .u8 (128 + r / 64 % 64), .int .u8 (128 + r % 64)] rfl rfl ?c1 ?c2 ?c3 ?c4 ?c5 ?_)
 case c1 =>
  intro j u hj
  match j, hj with
  | 0, hj => simp at hj; subst hj; simp [Addr.add]
  | 1, hj => simp at hj; subst hj; simp [Addr.add]; exact b63 _ (by omega) (by omega)
  | 2, hj => simp at hj; subst hj; simp [Addr.add]; exact b63 _ (by omega) (by omega)
  | (j + 3), hj => simp at hj
 case c2 => intro u hu; simp at hu; rcases hu with rfl | rfl | rfl <;> rfl
 case c3 => unfold maxLen; omega
 case c4 => omega
 case c5 => simp; omega
 intro v' w2 hown' hgrow _
 go_wp2
 go_ret
 exact ⟨_, rfl, hown', _, hgrow⟩

set_option maxHeartbeats 4000000 in
set_option maxRecDepth 100000 in
theorem put_four (B : Nat) (v : Value) (n : Nat) (xs : List Value) (r : Int) (h0 : 65536 ≤ r) (h1 : r ≤ 1114111) (w : World) (hown : w.ownsRow B 5 1 v n xs) (hlen : n + 4 ≤ 140737488355328) (hBw : B ≤ w.heap.size) :
  Calls Try.prog 70 #[v, .int .i32 r] w fun e w' => ∃ v', e = .returned v' ∧ w'.ownsRow B 5 1 v' (n + 4) (xs ++ [.int .u8 (240 + r / 262144), .int .u8 (128 + r / 4096 % 64), .int .u8 (128 + r / 64 % 64), .int .u8 (128 + r % 64)]) ∧ ∃ o, (w.alloc o).grownBy w' v.ownBlock := by
 obtain ⟨i0, hi, hz0, hz1, hz2⟩ := info_parts infoByte
 go_enter Try.func70, Try.ntmps70
 go_wp2_with (at_builtin; refine wpList_append_own _ rfl _ _ 102 rfl B 5 i0 (.int .u8 0) 1 1 Try.underlying102 hi hz0 hz1 hz2 rfl (by decide) _ _ _ rfl (hown.alloc _) ⟨w.heap.size, 0, none⟩ 4 4 [.int .u8 (240 + r / 262144), .int .u8 (128 + r / 4096 % 64), .int .u8 (128 + r / 64 % 64), .int .u8 (128 + r % 64)] rfl rfl ?c1 ?c2 ?c3 ?c4 ?c5 ?_)
 case c1 =>
  intro j u hj
  match j, hj with
  | 0, hj => simp at hj; subst hj; simp [Addr.add]
  | 1, hj => simp at hj; subst hj; simp [Addr.add]; exact b63 _ (by omega) (by omega)
  | 2, hj => simp at hj; subst hj; simp [Addr.add]; exact b63 _ (by omega) (by omega)
  | 3, hj => simp at hj; subst hj; simp [Addr.add]; exact b63 _ (by omega) (by omega)
  | (j + 4), hj => simp at hj
 case c2 => intro u hu; simp at hu; rcases hu with rfl | rfl | rfl | rfl <;> rfl
 case c3 => unfold maxLen; omega
 case c4 => omega
 case c5 => simp; omega
 intro v' w2 hown' hgrow _
 go_wp2
 go_ret
 exact ⟨_, rfl, hown', _, hgrow⟩

theorem put_any (B : Nat) (v : Value) (n : Nat) (xs : List Value) (r : Int) (hv : Lib.validRune r = true) (w : World) (hown : w.ownsRow B 5 1 v n xs) (hlen : n + 4 ≤ 140737488355328) (hBw : B ≤ w.heap.size) :
  Calls Try.prog 70 #[v, .int .i32 r] w fun e w' => ∃ v', e = .returned v' ∧ w'.ownsRow B 5 1 v' (n + (Lib.encodeRune r).length) (xs ++ Lib.byteCells (Lib.encodeRune r)) ∧ ∃ o, (w.alloc o).grownBy w' v.ownBlock := by
 have h : (0 ≤ r ∧ r < 0xD800) ∨ (0xDFFF < r ∧ r ≤ 0x10FFFF) := of_decide_eq_true hv
 rw [Lib.byteCells_encodeRune, ← Lib.runeCells_length]
 unfold Lib.runeCells
 by_cases c1 : r < 128
 ·rw [Lib.encodeRuneZ_one (by omega) (by omega)]
  exact put_one B v n xs r (by omega) c1 w hown hlen hBw
 ·by_cases c2 : r < 2048
  ·rw [Lib.encodeRuneZ_two (by omega) (by omega)]
   exact put_two B v n xs r (by omega) c2 w hown hlen hBw
  ·by_cases c3 : r < 65536
   ·rw [Lib.encodeRuneZ_three (by omega)]
    exact put_three B v n xs r (by omega) c3 w hown hlen hBw
   ·rw [Lib.encodeRuneZ_four (by omega) (by omega)]
    exact put_four B v n xs r (by omega) (by omega) w hown hlen hBw
end Go.Proofs.Ytagnbpobcijakaa

namespace Go.Proofs.Ytagnbpobcijakaa
open Go.RowKit

theorem conv_back (w : World) (a : Addr) (n cap : Nat) (l : List UInt8) (hn : n = l.length)
  (hc : ∀ j (hj : j < l.length), w.cell? (a.add j) = some (.int .u8 (l[j].toNat : Int))) :
  (convert 102 9 (.slice (some a) n cap)).run Try.prog w = .ok (.string ⟨l.toArray⟩) w := by
 subst hn
 exact run_convert_bytes_back w 102 9 5 a cap l Try.underlying102 Try.underlying5 Try.underlying9 hc

end Go.Proofs.Ytagnbpobcijakaa

namespace Go.Proofs.Ytagnbpobcijakaa
open Go.RowKit

theorem add0 (g j : Nat) : (⟨g, 0, none⟩ : Addr).add j = ⟨g, j, none⟩ := by
 simp [Addr.add]
 intro h
 exact h.symm

/-- string(b) of a row of bytes that the call owns. -/
theorem conv_owned {w : World} {B : Nat} {v : Value} {l : List UInt8} (h : w.ownsRow B 5 1 v l.length (Lib.byteCells l)) :
  (convert 102 9 v).run Try.prog w = .ok (.string ⟨l.toArray⟩) w := by
 by_cases h0 : 0 < l.length
 ·obtain ⟨g, cap, rfl, _, _, _, hc⟩ := owns_open h h0
  refine conv_back w ⟨g, 0, none⟩ l.length cap l rfl (fun j hj => ?_)
  have := hc j (.int .u8 (l[j].toNat : Int)) (by simp [Lib.byteCells, hj])
  rw [show (⟨g, 0, none⟩ : Addr).add j = ⟨g, j, none⟩ from add0 g j]
  exact this
 ·have hl : l = [] := List.length_eq_zero_iff.1 (by omega)
  subst hl
  rcases h.2 with ⟨rfl, _⟩ | ⟨g, cap, cur, hv, _⟩
  ·rw [run_convert_bytes_string w 102 9 5 none 0 0 Try.underlying102 Try.underlying5 Try.underlying9]
   rfl
  ·subst hv
   exact conv_back w ⟨g, 0, none⟩ 0 cap [] rfl (fun j hj => by simp at hj)

set_option maxHeartbeats 4000000 in
set_option maxRecDepth 1000000 in
theorem rof_any (xs : List Int) (ao : Option Addr) (cap : Nat) (w : World) (hl : xs.length ≤ 1099511627776) (hrow : RowAt w ao xs) :
  Calls Try.prog 55 #[.slice ao xs.length cap] w fun e w' => e = .returned (.tuple #[.string ⟨(ofS xs).toArray⟩, .int .i64 (ofE xs)]) ∧ Below w.heap.size w w' := by
 go_enter Try.func55, Try.ntmps55
 go_wp2
 go_loopw [4, 5] (fun v i wr => ∃ (k : Nat), k ≤ xs.length ∧ i = .int .i64 k ∧ wr.ownsRow w.heap.size 5 1 v (ofL (xs.take k)).length (Lib.byteCells (ofL (xs.take k))) ∧ Below w.heap.size w wr ∧ ofOk (xs.take k) = true) (fun _ i _ => xs.length - (intOf i).toNat)
 case atStart =>
  exact ⟨0, Nat.zero_le _, rfl, ⟨by simp [ofL, Lib.byteCells], .inl ⟨rfl, rfl⟩⟩, Below.refl _ w, rfl⟩
 case round =>
  obtain ⟨k, hk, rfl, hown, hbw, hok⟩ := hrel
  have HOK := hide hok
  clear hok
  have hsz := hbw.size
  have hlen := ofL_len (xs.take k)
  have hlen2 : (xs.take k).length ≤ k := List.length_take_le _ _
  by_cases hlt : k < xs.length
  ·obtain ⟨b, off, rfl, hb, hc⟩ := hrow k hlt
   have hc2 := (hbw.cell (p := ⟨b, off + k, none⟩) hb).trans hc
   have HT := hide (List.take_succ_eq_append_getElem hlt)
   generalize hxk : xs[k] = x at *
   have HXK := hide hxk
   clear hxk hc
   go_wp2_with fail
   refine (is_any _ _).mono ?_
   rintro e w1 ⟨rfl, rfl⟩
   generalize hv : Lib.validRune x = vb
   have HV := hide hv
   clear hv
   cases vb
   ·go_wp2
    go_ret2
    refine ⟨?_, hbw⟩
    have hbad : ofOk xs = false := ofOk_bad hlt (by rw [unhide HXK]; exact unhide HV)
    rw [ofS_bad hbad, ofE_bad hbad]
    rfl
   ·go_wp2_with fail
    refine (put_any w.heap.size _ _ _ _ (unhide HV) _ hown (by omega) hsz).mono ?_
    rintro e w2 ⟨v', rfl, hown', o, hgrow⟩
    have hb2 : Below w.heap.size w w2 := (hbw.alloc hsz o).grown hgrow (by simp; omega) (fun g hg => (hown.lt g hg).1)
    go_wp2
    go_roundw
    case rel =>
     refine ⟨k + 1, by omega, by go_num, ?_, hb2, ?_⟩
     ·rw [unhide HT, ofL_snoc, Lib.byteCells_append, List.length_append]
      exact hown'
     ·rw [unhide HT, ofOk_snoc, unhide HOK, unhide HV]
      rfl
    case measure =>
     simp [intOf]
     omega
  ·have hke : k = xs.length := by omega
   subst hke
   rw [List.take_length] at hown HOK
   have hcv := conv_owned hown
   go_wp2
   go_ret2
   refine ⟨?_, hbw⟩
   rw [ofS_ok (unhide HOK), ofE_ok (unhide HOK)]
   rfl

end Go.Proofs.Ytagnbpobcijakaa

namespace Go.Proofs.Ytagnbpobcijakaa
open Go.RowKit

/-- The cells of a slice of ints. -/
def IntsAt (w : World) (ao : Option Addr) (zs : List Int) : Prop :=
 ∀ j (hj : j < zs.length), ∃ b off, ao = some ⟨b, off, none⟩ ∧ b < w.heap.size ∧ w.cell? ⟨b, off + j, none⟩ = some (.int .i64 zs[j])

theorem IntsAt.below {w w' : World} {ao : Option Addr} {zs : List Int} (h : IntsAt w ao zs) (hb : Below w.heap.size w w') : IntsAt w' ao zs := by
 intro j hj
 obtain ⟨b, off, e, hlt, hc⟩ := h j hj
 have := hb.size
 exact ⟨b, off, e, by omega, (hb.cell (p := ⟨b, off + j, none⟩) hlt).trans hc⟩

theorem rowAt_owns {w : World} {B : Nat} {v : Value} {xs : List Int} (h : w.ownsRow B 21 1 v xs.length (xs.map (Value.int .i32))) : ∃ ao cap, v = .slice ao xs.length cap ∧ RowAt w ao xs ∧ xs.length ≤ cap ∧ cap ≤ maxLen := by
 rcases h.2 with ⟨rfl, h0⟩ | ⟨g, cap, cur, rfl, _, hg, hnc, hcm, _, _⟩
 ·exact ⟨none, 0, by rw [h0], fun j hj => by omega, by omega, by unfold maxLen; omega⟩
 ·refine ⟨_, cap, rfl, fun j hj => ?_, hnc, hcm⟩
  obtain ⟨g', cap', e, _, hg', _, hc⟩ := owns_open h (by omega)
  cases e
  exact ⟨g, 0, rfl, hg', by rw [Nat.zero_add]; exact hc j _ (by simp [hj])⟩

def someCells : Array Value := (some22.map (Value.int .i32)).toArray

set_option maxHeartbeats 4000000 in
set_option maxRecDepth 1000000 in
theorem lawOf_any (zs : List Int) (ao : Option Addr) (cap : Nat) (w : World) (hl : zs.length ≤ 9223372036854775807) (hz : IntsAt w ao zs) :
  Calls Try.prog 41 #[.slice ao zs.length cap] w fun e w' => e = .returned (.string ⟨(txt zs).toArray⟩) ∧ Below w.heap.size w w' := by
 obtain ⟨i0, hi, hz0, hz1, hz2⟩ := info_parts infoRune
 go_enter Try.func41, Try.ntmps41
 go_wp2
 go_loopw [4, 5] (fun v i wr => ∃ (k : Nat), k ≤ zs.length ∧ k ≤ 40 ∧ i = .int .i64 k ∧ wr.heap[w.heap.size]? = some (.cells someCells 21 (0, 0)) ∧ wr.ownsRow (w.heap.size + 1) 21 1 v ((zs.take k).map pick).length (((zs.take k).map pick).map (Value.int .i32)) ∧ Below w.heap.size w wr) (fun _ i _ => 40 - (intOf i).toNat)
 case atStart =>
  refine ⟨0, Nat.zero_le _, Nat.zero_le _, rfl, ?_, ⟨by simp, .inl ⟨rfl, rfl⟩⟩, (Below.refl _ w).alloc (Nat.le_refl _) _⟩
  exact alloc_heap w _
 case round =>
  obtain ⟨k, hk, hk40, rfl, hsome, hown, hbw⟩ := hrel
  have hsz : w.heap.size < wr.heap.size := (Array.getElem?_eq_some_iff.1 hsome).1
  by_cases hlt : k < zs.length ∧ k < 40
  ·obtain ⟨hlt, hlt40⟩ := hlt
   obtain ⟨L, hL⟩ : ∃ L, L = (zs.take k).map pick := ⟨_, rfl⟩
   have hLl : L.length ≤ 40 := by rw [hL, List.length_map, List.length_take]; omega
   rw [← hL] at hown
   have HL := hide hL
   clear hL
   obtain ⟨b, off, rfl, hb, hc⟩ := hz k hlt
   have hc2 := (hbw.cell (p := ⟨b, off + k, none⟩) hb).trans hc
   have HT := hide (List.take_succ_eq_append_getElem hlt)
   generalize zs[k] = z at *
   clear hc
   have q0 := Int.emod_nonneg z (show (22 : Int) ≠ 0 by decide)
   have q1 := Int.emod_lt_of_pos z (show (0 : Int) < 22 by decide)
   have hpk : wr.cell? ⟨w.heap.size, (z % 22).toNat, none⟩ = some (.int .i32 (pick z)) := by
    rw [Lib.cell_of_heap hsome]
    have h2 : (z % 22).toNat < some22.length := by show _ < 22; omega
    simp [someCells, pick, List.getD, h2]
   go_wp2_with fail
   refine (within_any z 22 (by decide) (by decide) _).mono ?_
   rintro e w1 ⟨rfl, rfl⟩
   generalize z % 22 = q at *
   generalize hxx : pick z = x at *
   have HX := hide hxx
   clear hxx
   go_wp2_with (at_builtin; refine wpList_append_own _ rfl _ _ 122 rfl (w.heap.size + 1) 21 i0 (.int .i32 0) 1 4 Try.underlying122 hi hz0 hz1 hz2 rfl (by decide) _ _ _ rfl (hown.alloc _) ⟨w1.heap.size, 0, none⟩ 1 1 [.int .i32 x] rfl rfl ?c1 ?c2 ?c3 ?c4 ?c5 ?_)
   case c1 =>
    intro j u hj
    match j, hj with
    | 0, hj => simp at hj; subst hj; simp [Addr.add]
   case c2 => intro u hu; simp at hu; subst hu; rfl
   case c3 => unfold maxLen; omega
   case c4 => omega
   case c5 => simp; omega
   intro v' w2 hown' hgrow _
   have hb3 := (hbw.alloc (by omega) (.cells #[.int .i32 x] 21)).grown hgrow (by simp; omega) (fun g hg => by have := (hown.lt g hg).1; omega)
   have hsome3 : w2.heap[w.heap.size]? = some (.cells someCells 21 (0, 0)) := by
    rw [hgrow.block w.heap.size (by simp; omega) (fun e => by have := (hown.lt w.heap.size e.symm).1; omega), Lib.alloc_old w1 _ _ hsz]
    exact hsome
   go_wp2
   go_roundw
   case rel =>
    refine ⟨k + 1, by omega, by omega, by go_num, hsome3, ?_, hb3⟩
    have e : (zs.take k ++ [z]).map pick = (zs.take k).map pick ++ [x] := by
     rw [List.map_append, List.map_cons, List.map_nil, unhide HX]
    rw [unhide HT, e, ← unhide HL, List.map_append, List.length_append]
    exact hown'
   case measure =>
    simp [intOf]
    omega
  ·have hend : zs.take k = zs.take 40 := by
    by_cases h40 : k = 40
    ·rw [h40]
    ·rw [List.take_of_length_le (by omega), List.take_of_length_le (by omega)]
   rw [hend] at hown
   have hown2 : wr.ownsRow (w.heap.size + 1) 21 1 _ (picks zs).length ((picks zs).map (Value.int .i32)) := hown
   obtain ⟨bo, cp, rfl, hrow, _, _⟩ := rowAt_owns hown2
   have hpl := picks_len zs
   have HPK := hide (picks_ok zs)
   clear hown hown2 hend
   have hlt' : ¬ (k : Int) < (zs.length : Int) ∨ ¬ (k : Int) < 40 := by omega
   by_cases hc1 : k < zs.length
   ·have hc2 : ¬ k < 40 := by omega
    go_wp2_with fail
    refine (rof_any (picks zs) bo cp _ (by omega) hrow).mono ?_
    rintro e w2 ⟨rfl, b2⟩
    rw [ofS_ok (unhide HPK)]
    go_wp2
    go_ret
    exact ⟨rfl, hbw.trans (b2.mono (by omega))⟩
   ·go_wp2_with fail
    refine (rof_any (picks zs) bo cp _ (by omega) hrow).mono ?_
    rintro e w2 ⟨rfl, b2⟩
    rw [ofS_ok (unhide HPK)]
    go_wp2
    go_ret
    exact ⟨rfl, hbw.trans (b2.mono (by omega))⟩

end Go.Proofs.Ytagnbpobcijakaa
