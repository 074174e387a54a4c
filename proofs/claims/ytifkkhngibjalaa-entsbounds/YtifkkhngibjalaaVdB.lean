/-
  value.hasMore.
-/
import Derived.Test.YtifkkhngibjalaaVcI
namespace Go.Proofs.Ytifkkhngibjalaa
open Go.RowKit Go.Sort

/-- Have two values, kinds aside, the same in all fields (the list's length for the list)? -/
def SameF (r r' : R7) : Prop := r.b = r'.b ∧ r.n = r'.n ∧ r.s = r'.s ∧ r.t = r'.t ∧ r.i = r'.i ∧ r.ll = r'.ll

set_option maxHeartbeats 2000000 in
set_option maxRecDepth 1000000 in
theorem hasMore_yes (r r' : R7) (w : World) (h : ¬ SameF r r') :
    Calls Try.prog 60 #[r.val, r'.val] w fun e w' => e = .returned (.bool true) ∧ Below w.heap.size w w' := by
  obtain ⟨k, b, n, s, t, i, lo, ll, lc⟩ := r
  obtain ⟨k', b', n', s', t', i', lo', ll', lc'⟩ := r'
  unfold SameF at h
  unfold R7.val
  simp only at h ⊢
  by_cases hb0 : b = b'
  case neg =>
    have hb : (b == b') = false := by simpa using hb0
    clear h
    go_enter Try.func60, Try.ntmps60
    go_wp2
    go_ret
    exact ⟨rfl, below2 _ _ _⟩
  subst hb0
  by_cases hn : n = n'
  case neg =>
    have hb : (n == n') = false := by simpa using hn
    clear h
    go_enter Try.func60, Try.ntmps60
    go_wp2
    go_ret
    exact ⟨rfl, below2 _ _ _⟩
  subst hn
  by_cases hs : s = s'
  case neg =>
    have hb : (s.toList == s'.toList) = false := bytes_ne hs
    clear h
    go_enter Try.func60, Try.ntmps60
    go_wp2
    go_ret
    exact ⟨rfl, below2 _ _ _⟩
  subst hs
  by_cases ht : t = t'
  case neg =>
    have hb : (t.toList == t'.toList) = false := bytes_ne ht
    clear h
    go_enter Try.func60, Try.ntmps60
    go_wp2
    go_ret
    exact ⟨rfl, below2 _ _ _⟩
  subst ht
  by_cases hi : i = i'
  case neg =>
    have hb : (i.toList == i'.toList) = false := bytes_ne hi
    clear h
    go_enter Try.func60, Try.ntmps60
    go_wp2
    go_ret
    exact ⟨rfl, below2 _ _ _⟩
  subst hi
  by_cases hl : ll = ll'
  case neg =>
    have hb : ((ll : Int) == (ll' : Int)) = false := by simpa using (show ¬ (ll : Int) = ll' by omega)
    clear h
    go_enter Try.func60, Try.ntmps60
    go_wp2
    go_ret
    exact ⟨ret_bool (by simp [bne, hb]), below2 _ _ _⟩
  subst hl
  exact absurd ⟨rfl, rfl, rfl, rfl, rfl, rfl⟩ h

set_option maxHeartbeats 2000000 in
set_option maxRecDepth 1000000 in
theorem hasMore_no (r r' : R7) (w : World) (h : SameF r r') :
    Calls Try.prog 60 #[r.val, r'.val] w fun e w' => e = .returned (.bool false) ∧ Below w.heap.size w w' := by
  obtain ⟨k, b, n, s, t, i, lo, ll, lc⟩ := r
  obtain ⟨k', b', n', s', t', i', lo', ll', lc'⟩ := r'
  unfold SameF at h
  unfold R7.val
  simp only at h ⊢
  obtain ⟨rfl, rfl, rfl, rfl, rfl, rfl⟩ := h
  go_enter Try.func60, Try.ntmps60
  go_wp2
  go_ret
  exact ⟨ret_bool (by simp), below2 _ _ _⟩
end Go.Proofs.Ytifkkhngibjalaa
