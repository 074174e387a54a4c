/-
  parse's reader: a number, a text, a word.
-/
import Derived.Test.YtlakgnnjokienaaGreatDoorPaE
namespace Go.Proofs.YtlakgnnjokienaaGreatDoor
open Go.RowKit

/-- A tree of blocks that are newer than w1 stays behind a store into block b, which is elder than w1. -/
theorem IsE.set7 {w2 : World} {n m b : Nat} (hnm : n ≤ m) (hb : b < m) {r : R7} {x : Ex} (h : IsE w2 (fun b => m ≤ b) r x) (v0 v1 v2 v3 v4 v5 v6 : Value) : IsE (set7 w2 b v0 v1 v2 v3 v4 v5 v6) (fun b => n ≤ b) r x :=
  IsE.turn (by rw [set7_size]; exact Nat.le_refl _) (fun k hk _ => ⟨set7_heap _ _ _ _ _ _ _ _ _ _ (by omega), by omega⟩) r x h

set_option maxHeartbeats 2000000 in
set_option maxRecDepth 1000000 in
theorem leaf_does (n : Nat) : Does 99 leafP n := by
  intro st w rb hn h
  have hlt := h.lt
  have b0 := new1 w (.cells #[.int .i64 0, .bool false, .int .i64 0, .string ⟨#[]⟩, .string ⟨#[]⟩, .string ⟨#[]⟩, .slice none 0 0] 28)
  have P := peek_any st _ rb 0 (h.below b0)
  have L := fun w' h' => long_any st w' rb h'
  have S := fun w' h' => str_any st w' rb h'
  have W := fun w' h' => worded_does n st w' rb hn h'
  unfold tokV at P
  have z0 : (w.alloc (.cells #[.int .i64 0, .bool false, .int .i64 0, .string ⟨#[]⟩, .string ⟨#[]⟩, .string ⟨#[]⟩, .slice none 0 0] 28)).heap[w.heap.size]? = some (.cells #[.int .i64 0, .bool false, .int .i64 0, .string ⟨#[]⟩, .string ⟨#[]⟩, .string ⟨#[]⟩, .slice none 0 0] 28 (0, 0)) := alloc_heap _ _
  have hn0 : w.heap.size ≠ rb := by omega
  have hf := fld0
  unfold rp at P L S W ⊢
  by_cases c1 : (hdS st 0).k = 2
  · obtain ⟨ts, rfl, h1, h2⟩ := needSt_ok (by decide) c1
    have e : (some ts : St).bind leafP = some (eLong (needTok 2 (some ts)).n, ts.tail) := by
      show leafP ts = _
      have c1' : (hd ts 0).k = 2 := c1
      unfold leafP
      rw [if_pos c1', needTok, if_pos c1]
      rfl
    rw [e]
    rw [h2] at L
    generalize needTok 2 (some ts) = a at *
    generalize hdS (some ts) 0 = t at *
    generalize (⟨t.s.toArray⟩ : ByteArray) = y at *
    rw [c1] at P
    clear e h1 h2 S W c1
    go_enter Tryz.func99, Tryz.ntmps99
    go_wp2_with fail
    generalize w.alloc _ = w0 at *
    refine P.mono ?_
    rintro e w1 ⟨rfl, b1⟩
    go_wp2_with fail
    refine (L _ (h.below (b0.trans (b1.mono b0.size)))).mono ?_
    rintro e w2 ⟨rfl, k2, r2⟩
    have K2 := (Keep.of_below (rb := rb) (b0.trans (b1.mono b0.size))).trans k2
    obtain ⟨x0, x1, x2, x3, x4, x5, x6, xf⟩ := blk7 (k2.kept hn0 (kept_of_below b1 z0))
    go_wp2
    exact bodyPost_ret (v := R7.val ⟨2, false, a.n, ⟨#[]⟩, ⟨#[]⟩, ⟨#[]⟩, none, 0, 0⟩) (by simp [results, Tryz.results99, go_sem, x0, x1, x2, x3, x4, x5, x6, R7.val]) rfl ⟨_, rfl, K2.set7 (Nat.le_refl _) _ _ _ _ _ _ _, r2.set7 hlt _ _ _ _ _ _ _, fun x ts hx => by cases hx; exact isE_long _ _ _⟩
  by_cases c2 : (hdS st 0).k = 3
  · obtain ⟨ts, rfl, h1, h2⟩ := needSt_ok (by decide) c2
    have e : (some ts : St).bind leafP = some (eStr (needTok 3 (some ts)).s, ts.tail) := by
      show leafP ts = _
      have c2' : (hd ts 0).k = 3 := c2
      have c1' : ¬ (hd ts 0).k = 2 := c1
      unfold leafP
      rw [if_neg c1', if_pos c2', needTok, if_pos c2]
      rfl
    rw [e]
    rw [h2] at S
    generalize needTok 3 (some ts) = a at *
    generalize hdS (some ts) 0 = t at *
    generalize (⟨t.s.toArray⟩ : ByteArray) = y at *
    rw [c2] at P
    obtain ⟨s, hs⟩ : ∃ s : ByteArray, s = ⟨a.s.toArray⟩ := ⟨_, rfl⟩
    rw [← hs] at S
    have HI := hide (show ∀ w' P, IsE w' P ⟨3, false, 0, s, ⟨#[]⟩, ⟨#[]⟩, none, 0, 0⟩ (eStr a.s) by rw [hs]; exact fun w' P => isE_str w' P a.s)
    clear e h1 h2 L W c1 c2 hs
    go_enter Tryz.func99, Tryz.ntmps99
    go_wp2_with fail
    generalize w.alloc _ = w0 at *
    refine P.mono ?_
    rintro e w1 ⟨rfl, b1⟩
    go_wp2_with fail
    refine (S _ (h.below (b0.trans (b1.mono b0.size)))).mono ?_
    rintro e w2 ⟨rfl, k2, r2⟩
    have K2 := (Keep.of_below (rb := rb) (b0.trans (b1.mono b0.size))).trans k2
    obtain ⟨x0, x1, x2, x3, x4, x5, x6, xf⟩ := blk7 (k2.kept hn0 (kept_of_below b1 z0))
    go_wp2
    exact bodyPost_ret (v := R7.val ⟨3, false, 0, s, ⟨#[]⟩, ⟨#[]⟩, none, 0, 0⟩) (by simp [results, Tryz.results99, go_sem, x0, x1, x2, x3, x4, x5, x6, R7.val]) rfl ⟨_, rfl, K2.set7 (Nat.le_refl _) _ _ _ _ _ _ _, r2.set7 hlt _ _ _ _ _ _ _, fun x ts hx => by cases hx; exact unhide HI _ _⟩
  · have e : st.bind leafP = st.bind wordedP := by
      cases st with
      | none => rfl
      | some ts =>
        have c2' : ¬ (hd ts 0).k = 3 := c2
        have c1' : ¬ (hd ts 0).k = 2 := c1
        show leafP ts = wordedP ts
        unfold leafP
        rw [if_neg c1', if_neg c2']
    rw [e]
    generalize st.bind wordedP = o at *
    generalize hdS st 0 = t at *
    generalize (⟨t.s.toArray⟩ : ByteArray) = y at *
    clear e L S
    go_enter Tryz.func99, Tryz.ntmps99
    go_wp2_with fail
    generalize w.alloc _ = w0 at *
    refine P.mono ?_
    rintro e w1 ⟨rfl, b1⟩
    go_wp2_with fail
    have b01 := b0.trans (b1.mono b0.size)
    refine (W _ (h.below b01)).mono ?_
    rintro e w2 ⟨r, rfl, k2, r2, hE⟩
    have K2 := (Keep.of_below (rb := rb) b01).trans k2
    obtain ⟨x0, x1, x2, x3, x4, x5, x6, xf⟩ := blk7 (k2.kept hn0 (kept_of_below b1 z0))
    have hz1 : w.heap.size < w1.heap.size := (Array.getElem?_eq_some_iff.1 (kept_of_below b1 z0)).1
    have HE := hide hE
    clear hE
    unfold R7.val
    go_wp2
    exact bodyPost_ret (v := R7.val r) (by simp [results, Tryz.results99, go_sem, x0, x1, x2, x3, x4, x5, x6, R7.val]) rfl ⟨_, rfl, K2.set7 (Nat.le_refl _) _ _ _ _ _ _ _, r2.set7 hlt _ _ _ _ _ _ _, fun x ts hx => (unhide HE x ts hx).set7 b01.size hz1 _ _ _ _ _ _ _⟩
end Go.Proofs.YtlakgnnjokienaaGreatDoor
