/-
  Plain facts on lists of bytes: what text.Like computes (no program in it).
-/
import Derived.Lib.MapLaws
import Derived.Lib.IndexMore
import Derived.Lib.Strings
import Derived.Lib.RuneBytes
import Derived.Below
namespace Go.Proofs.Ythmmplmppchfmaa
open Go

theorem hide {p : Prop} (h : p) : RowKit.Hid p := h
theorem unhide {p : Prop} (h : RowKit.Hid p) : p := h

theorem ret_bool {a b : Bool} (h : a = b) : Ending.returned (.bool a) = .returned (.bool b) := by rw [h]
theorem ret_int {k : IntKind} {a b : Int} (h : a = b) : Ending.returned (.int k a) = .returned (.int k b) := by rw [h]
theorem ret_str {a b : List UInt8} (h : a = b) : Ending.returned (.string ⟨a.toArray⟩) = .returned (.string ⟨b.toArray⟩) := by rw [h]

def behL (s piece : List UInt8) (st : Bool) : List UInt8 × Bool :=
  if st then ((Lib.cut s piece).2.1, (Lib.cut s piece).2.2) else (Lib.trimPrefix s piece, Lib.hasPrefix s piece)

def likeL : List UInt8 → List UInt8 → Bool → List UInt8 → Bool
  | [], s, st, piece => if st then Lib.hasSuffix s piece else s == piece
  | c :: t, s, st, piece => if c = 42 then (if (behL s piece st).2 then likeL t (behL s piece st).1 true [] else false) else likeL t s st (piece ++ [c])

theorem likeL_skip (s : List UInt8) (st : Bool) : ∀ (n : Nat) (rest piece : List UInt8), (∀ b ∈ rest.take n, b ≠ 42) → likeL rest s st piece = likeL (rest.drop n) s st (piece ++ rest.take n)
  | 0, rest, piece, _ => by simp
  | n + 1, [], piece, _ => by simp
  | n + 1, c :: t, piece, h => by
    have hc : c ≠ 42 := h c (by simp)
    have ih := likeL_skip s st n t (piece ++ [c]) (fun b hb => h b (by simp [hb]))
    rw [likeL, if_neg hc, ih]
    simp

theorem dec_ascii (a : UInt8) (t : List UInt8) (h : a.toNat < 128) : Lib.decodeL (a :: t) = (a.toNat, 1) := by
  rw [Lib.decodeL_N, Lib.decodeN_ascii _ _ _ _ _ (by simpa using h)]
  simp

/-- All bytes of a rune beyond ASCII are beyond ASCII. -/
theorem wide_high (l : List UInt8) (h : 128 ≤ (l.getD 0 0).toNat) : ∀ b ∈ l.take (Lib.decodeL l).2, 128 ≤ b.toNat := by
  have hl : 0 < l.length := by
    rcases l with _ | ⟨a, t⟩
    · simp at h
    · simp
  have hh : ∀ x : UInt8, x.toNat / 64 = 2 → 128 ≤ x.toNat := fun x hx => by omega
  rw [Lib.decodeL_N]
  rcases Lib.decodeN_shape l.length (l.getD 0 0).toNat (l.getD 1 0).toNat (l.getD 2 0).toNat (l.getD 3 0).toNat with ⟨c, e⟩ | ⟨c1, c2, c3, cv, e⟩ | ⟨c1, c2, c3, c4, cv, cs, e⟩ | ⟨c1, c2, c3, c4, c5, cv, cw, e⟩ | e
  · omega
  · rw [e, Lib.takeB l c2]
    intro b hb
    simp only [List.mem_cons, List.not_mem_nil, or_false] at hb
    rcases hb with rfl | rfl
    · exact h
    · exact hh _ c3
  · rw [e, Lib.takeC l c2]
    intro b hb
    simp only [List.mem_cons, List.not_mem_nil, or_false] at hb
    rcases hb with rfl | rfl | rfl
    · exact h
    · exact hh _ c3
    · exact hh _ c4
  · rw [e, Lib.takeD l c2]
    intro b hb
    simp only [List.mem_cons, List.not_mem_nil, or_false] at hb
    rcases hb with rfl | rfl | rfl | rfl
    · exact h
    · exact hh _ c3
    · exact hh _ c4
    · exact hh _ c5
  · rw [e, Lib.takeA l hl]
    intro b hb
    simp only [List.mem_cons, List.not_mem_nil, or_false] at hb
    subst hb
    exact h

/-- A rune that is no star has no star among its bytes; a star is one byte. -/
theorem wide_nostar (l : List UInt8) (hne : l ≠ []) (h : (Lib.decodeL l).1 ≠ 42) : ∀ b ∈ l.take (Lib.decodeL l).2, b ≠ 42 := by
  rcases l with _ | ⟨a, t⟩
  · exact absurd rfl hne
  · by_cases ha : a.toNat < 128
    · rw [dec_ascii a t ha] at h ⊢
      intro b hb
      simp at hb
      subst hb
      rintro rfl
      exact h rfl
    · intro b hb hb'
      have := wide_high (a :: t) (by simpa using Nat.le_of_not_lt ha) b hb
      rw [hb'] at this
      exact absurd this (by decide)

theorem star_of (l : List UInt8) (hne : l ≠ []) (h : (Lib.decodeL l).1 = 42) : ∃ t, l = 42 :: t ∧ (Lib.decodeL l).2 = 1 := by
  rcases l with _ | ⟨a, t⟩
  · exact absurd rfl hne
  · by_cases ha : a.toNat < 128
    · rw [dec_ascii a t ha] at h ⊢
      refine ⟨t, ?_, rfl⟩
      have : a = 42 := UInt8.toNat_inj.1 h
      rw [this]
    · exfalso
      have h2 : 128 ≤ ((a :: t).getD 0 0).toNat := by simpa using Nat.le_of_not_lt ha
      rw [Lib.decodeL_N] at h
      have k0 := ((a :: t).getD 0 0).toNat_lt
      rcases Lib.decodeN_shape (a :: t).length ((a :: t).getD 0 0).toNat ((a :: t).getD 1 0).toNat ((a :: t).getD 2 0).toNat ((a :: t).getD 3 0).toNat with ⟨c, e⟩ | ⟨c1, c2, c3, cv, e⟩ | ⟨c1, c2, c3, c4, cv, cs, e⟩ | ⟨c1, c2, c3, c4, c5, cv, cw, e⟩ | e
      all_goals (rw [e] at h; simp only [] at h; omega)

theorem behL_len (s p : List UInt8) (st : Bool) : (behL s p st).1.length ≤ s.length := by
  unfold behL
  split
  · unfold Lib.cut
    split
    · simp
    · simp
  · unfold Lib.trimPrefix
    split <;> simp

theorem extract_list (s : ByteArray) (a b : Nat) : (s.extract a b).data.toList = (s.data.toList.drop a).take (b - a) := by
  rw [ByteArray.data_extract, Array.toList_extract]

theorem drop_step (l : List UInt8) (a pos k : Nat) (h : a ≤ pos) : (l.drop a).take (pos + k - a) = (l.drop a).take (pos - a) ++ (l.drop pos).take k := by
  have e : pos + k - a = (pos - a) + k := by omega
  rw [e, List.take_add, List.drop_drop, show a + (pos - a) = pos from by omega]

def digs : List UInt8 := [48, 49, 50, 51, 52, 53, 54, 55, 56, 57, 97, 98, 99, 100, 101, 102, 103, 104, 105, 106, 107, 108, 109, 110, 111, 112, 113, 114, 115, 116, 117, 118, 119, 120, 121, 122]
def dig (k : Nat) : UInt8 := digs.getD k 0
def hexL (k : Nat) : List UInt8 := if k < 16 then [dig k] else [dig (k / 16), dig (k % 16)]

theorem ba_app (a b : List UInt8) : (⟨a.toArray⟩ : ByteArray) ++ ⟨b.toArray⟩ = ⟨(a ++ b).toArray⟩ := by
  apply ByteArray.ext
  simp

/-- What text.quoted writes for a rune. -/
def quoL (r : Int) : List UInt8 :=
  if r = 92 ∨ r = 34 then 92 :: Lib.encodeRune r
  else if r = 10 then [92, 110]
  else if r = 9 then [92, 116]
  else if r < 32 ∨ r = 127 then [92, 117, 123] ++ hexL r.toNat ++ [125]
  else Lib.encodeRune r

theorem hexL_len (k : Nat) : (hexL k).length ≤ 2 := by unfold hexL; split <;> simp
theorem encodeRune_len (r : Int) : 1 ≤ (Lib.encodeRune r).length ∧ (Lib.encodeRune r).length ≤ 4 := by
  have := Lib.runeCells_le r
  rw [Lib.runeCells_length] at this
  exact this
theorem quoL_len (r : Int) : (quoL r).length ≤ 6 := by
  have h1 := encodeRune_len r
  have h2 := hexL_len r.toNat
  unfold quoL
  repeat' split
  all_goals (simp; try omega)

end Go.Proofs.Ythmmplmppchfmaa
