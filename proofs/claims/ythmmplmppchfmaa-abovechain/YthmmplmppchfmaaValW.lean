/-
  chancelref3.LessUid, Same, Less: what they return of plain values.
-/
import Derived.Test.YthmmplmppchfmaaValP
import Derived.Test.YthmmplmppchfmaaPlain
import Derived.WalkKit
import Derived.WalkSpells
import Derived.WalkLawsBesides
namespace Go.Proofs.Ythmmplmppchfmaa
open Go.RowKit

def ba (l : List UInt8) : ByteArray := ⟨l.toArray⟩
theorem ba_list (l : List UInt8) : (ba l).toList = l := by rw [ByteArray.toList_eq]; rfl
theorem below2 (w : World) (o o' : Obj) : Below w.heap.size w ((w.alloc o).alloc o') :=
  ((Below.refl _ w).alloc (Nat.le_refl _) o).alloc (by simp) o'

/-- A value as the program holds it: its seven fields. -/
def val7 (k : Int) (b : Bool) (n : Int) (s t i : ByteArray) (lv : Value) : Value := .agg #[.int .i64 k, .bool b, .int .i64 n, .string s, .string t, .string i, lv]
/-- A plain value's; its list is empty. -/
def valP (p : PV) (lv : Value) : Value :=
  match p with
  | .bool b => val7 1 b 0 (ba []) (ba []) (ba []) lv
  | .long n => val7 2 false n (ba []) (ba []) (ba []) lv
  | .str s => val7 3 false 0 (ba s) (ba []) (ba []) lv
  | .uid t i => val7 4 false 0 (ba []) (ba t) (ba i) lv

set_option maxHeartbeats 400000 in
theorem r3lessUid_any (t i u j : List UInt8) (w : World) :
    Calls Try.prog 19 #[.agg #[.string (ba t), .string (ba i)], .agg #[.string (ba u), .string (ba j)]] w fun e w' => e = .returned (.bool (lessP (.uid t i) (.uid u j))) ∧ Below w.heap.size w w' := by
  by_cases h : t = u
  · have hb : ((ba t).toList == (ba u).toList) = true := by rw [h]; simp
    have he : lessP (.uid t i) (.uid u j) = Op.bytesLess (ba i).toList (ba j).toList := by rw [bytesLess_eq, ba_list, ba_list]; simp [lessP, h]
    rw [he]
    clear he h
    go_enter Try.func19, Try.ntmps19
    go_wp2
    go_ret
    exact ⟨rfl, below2 _ _ _⟩
  · have hb : ((ba t).toList == (ba u).toList) = false := by rw [ba_list, ba_list]; simpa using h
    have he : lessP (.uid t i) (.uid u j) = Op.bytesLess (ba t).toList (ba u).toList := by rw [bytesLess_eq, ba_list, ba_list]; simp [lessP, h]
    rw [he]
    clear he h
    go_enter Try.func19, Try.ntmps19
    go_wp2
    go_ret
    exact ⟨rfl, below2 _ _ _⟩

set_option maxHeartbeats 400000 in
theorem r3less_kinds (k b n s t i lv k' b' n' s' t' i' lv') (hk : k ≠ k') (w : World) :
    Calls Try.prog 72 #[val7 k b n s t i lv, val7 k' b' n' s' t' i' lv'] w fun e w' => e = .returned (.bool (decide (k < k'))) ∧ Below w.heap.size w w' := by
  have hb : (k == k') = false := by simpa using hk
  unfold val7
  go_enter Try.func72, Try.ntmps72
  go_wp2
  go_ret
  exact ⟨rfl, below2 _ _ _⟩

set_option maxHeartbeats 400000 in
theorem r3less_bool (b b' : Bool) (lv lv' : Value) (w : World) :
    Calls Try.prog 72 #[valP (.bool b) lv, valP (.bool b') lv'] w fun e w' => e = .returned (.bool (lessP (.bool b) (.bool b'))) ∧ Below w.heap.size w w' := by
  unfold valP val7
  cases b
  · go_enter Try.func72, Try.ntmps72
    go_wp2
    go_ret
    exact ⟨ret_bool (by simp [lessP]), below2 _ _ _⟩
  · go_enter Try.func72, Try.ntmps72
    go_wp2
    go_ret
    exact ⟨ret_bool (by simp [lessP]), below2 _ _ _⟩

set_option maxHeartbeats 400000 in
theorem r3less_long (n n' : Int) (lv lv' : Value) (w : World) :
    Calls Try.prog 72 #[valP (.long n) lv, valP (.long n') lv'] w fun e w' => e = .returned (.bool (lessP (.long n) (.long n'))) ∧ Below w.heap.size w w' := by
  unfold valP val7
  go_enter Try.func72, Try.ntmps72
  go_wp2
  go_ret
  exact ⟨rfl, below2 _ _ _⟩

set_option maxHeartbeats 400000 in
theorem r3less_str (s s' : List UInt8) (lv lv' : Value) (w : World) :
    Calls Try.prog 72 #[valP (.str s) lv, valP (.str s') lv'] w fun e w' => e = .returned (.bool (lessP (.str s) (.str s'))) ∧ Below w.heap.size w w' := by
  have he : lessP (.str s) (.str s') = Op.bytesLess (ba s).toList (ba s').toList := by rw [bytesLess_eq, ba_list, ba_list]; rfl
  rw [he]
  clear he
  unfold valP val7
  go_enter Try.func72, Try.ntmps72
  go_wp2
  go_ret
  exact ⟨rfl, below2 _ _ _⟩

set_option maxHeartbeats 400000 in
theorem r3less_uid (t i t' i' : List UInt8) (lv lv' : Value) (w : World) :
    Calls Try.prog 72 #[valP (.uid t i) lv, valP (.uid t' i') lv'] w fun e w' => e = .returned (.bool (lessP (.uid t i) (.uid t' i'))) ∧ Below w.heap.size w w' := by
  have U := r3lessUid_any t i t' i'
  generalize lessP (.uid t i) (.uid t' i') = bb at *
  unfold valP val7
  go_enter Try.func72, Try.ntmps72
  go_wp2_with fail
  refine (U _).mono ?_
  rintro e w1 ⟨rfl, b1⟩
  go_wp2
  go_ret
  exact ⟨rfl, (below2 _ _ _).trans (b1.mono (below2 _ _ _).size)⟩

/-- Of two plain values. -/
theorem r3less_plain (p q : PV) (lv lv' : Value) (w : World) :
    Calls Try.prog 72 #[valP p lv, valP q lv'] w fun e w' => e = .returned (.bool (lessP p q)) ∧ Below w.heap.size w w' := by
  cases p <;> cases q
  case bool.bool => exact r3less_bool _ _ _ _ _
  case long.long => exact r3less_long _ _ _ _ _
  case str.str => exact r3less_str _ _ _ _ _
  case uid.uid => exact r3less_uid _ _ _ _ _ _ _
  all_goals exact r3less_kinds _ _ _ _ _ _ _ _ _ _ _ _ _ _ (by decide) w

/-- Two values without elements: alike just where all fields are. -/
def Flat (k : Int) (b : Bool) (n : Int) (s t i : ByteArray) (k' : Int) (b' : Bool) (n' : Int) (s' t' i' : ByteArray) : Prop := k = k' ∧ b = b' ∧ n = n' ∧ s = s' ∧ t = t' ∧ i = i'

theorem bytes_ne {s s' : ByteArray} (h : s ≠ s') : (s.toList == s'.toList) = false := by
  rw [ByteArray.toList_eq, ByteArray.toList_eq]
  simp
  intro e
  exact h (ByteArray.ext e)

set_option maxHeartbeats 1000000 in
theorem r3same_unlike (k : Int) (b : Bool) (n : Int) (s t i : ByteArray) (k' : Int) (b' : Bool) (n' : Int) (s' t' i' : ByteArray) (ao bo : Option Addr) (la lb ca cb : Nat) (h : ¬ Flat k b n s t i k' b' n' s' t' i') (w : World) :
    Calls Try.prog 73 #[val7 k b n s t i (.slice ao la ca), val7 k' b' n' s' t' i' (.slice bo lb cb)] w fun e w' => e = .returned (.bool false) ∧ Below w.heap.size w w' := by
  unfold val7
  by_cases hk : k = k'
  case neg =>
    have hb : (k == k') = false := by simpa using hk
    clear h
    go_enter Try.func73, Try.ntmps73
    go_wp2
    go_ret
    exact ⟨rfl, below2 _ _ _⟩
  subst hk
  by_cases hb0 : b = b'
  case neg =>
    have hb : (b == b') = false := by simpa using hb0
    clear h
    go_enter Try.func73, Try.ntmps73
    go_wp2
    go_ret
    exact ⟨rfl, below2 _ _ _⟩
  subst hb0
  by_cases hn : n = n'
  case neg =>
    have hb : (n == n') = false := by simpa using hn
    clear h
    go_enter Try.func73, Try.ntmps73
    go_wp2
    go_ret
    exact ⟨rfl, below2 _ _ _⟩
  subst hn
  by_cases hs : s = s'
  case neg =>
    have hb : (s.toList == s'.toList) = false := bytes_ne hs
    clear h
    go_enter Try.func73, Try.ntmps73
    go_wp2
    go_ret
    exact ⟨rfl, below2 _ _ _⟩
  subst hs
  by_cases ht : t = t'
  case neg =>
    have hb : (t.toList == t'.toList) = false := bytes_ne ht
    clear h
    go_enter Try.func73, Try.ntmps73
    go_wp2
    go_ret
    exact ⟨rfl, below2 _ _ _⟩
  subst ht
  by_cases hi : i = i'
  case neg =>
    have hb : (i.toList == i'.toList) = false := bytes_ne hi
    clear h
    go_enter Try.func73, Try.ntmps73
    go_wp2
    go_ret
    exact ⟨rfl, below2 _ _ _⟩
  subst hi
  exact absurd ⟨rfl, rfl, rfl, rfl, rfl, rfl⟩ h

set_option maxHeartbeats 1000000 in
theorem r3same_flat (k : Int) (b : Bool) (n : Int) (s t i : ByteArray) (ao bo : Option Addr) (ca cb : Nat) (w : World) :
    Calls Try.prog 73 #[val7 k b n s t i (.slice ao 0 ca), val7 k b n s t i (.slice bo 0 cb)] w fun e w' => e = .returned (.bool true) ∧ Below w.heap.size w w' := by
  unfold val7
  go_enter Try.func73, Try.ntmps73
  go_wp2
  go_loopw [5] (fun iv wr => iv = .int .i64 0 ∧ wr = (w.alloc (.cells #[.int .i64 k, .bool b, .int .i64 n, .string s, .string t, .string i, .slice ao 0 ca] 49)).alloc (.cells #[.int .i64 k, .bool b, .int .i64 n, .string s, .string t, .string i, .slice bo 0 cb] 49)) (fun _ _ => 0)
  case atStart => exact ⟨rfl, rfl⟩
  case round =>
    obtain ⟨rfl, rfl⟩ := hrel
    go_wp2
    go_ret
    exact ⟨rfl, below2 _ _ _⟩
end Go.Proofs.Ythmmplmppchfmaa
