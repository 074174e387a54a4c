/-
  chancellaw1.TextJoins returns true, for every two slices of ints.
-/
import Derived.Test.YtiokpdpegkbgiabDoorKnown
import Derived.Test.YtiokpdpegkbgiabDoorLawOf
import Derived.Lib.ItoaMem
namespace Go.Proofs.YtiokpdpegkbgiabDoor
open Go.RowKit

theorem RowAt.left {w : World} {ao : Option Addr} {xs ys : List Int} (h : RowAt w ao (xs ++ ys)) : RowAt w ao xs := by
  intro j hj
  obtain ⟨b, off, e, hb, hc⟩ := h j (by rw [List.length_append]; omega)
  exact ⟨b, off, e, hb, by rw [hc, List.getElem_append_left hj]⟩

theorem RowAt.right {w : World} {b off : Nat} {xs ys : List Int} (h : RowAt w (some ⟨b, off, none⟩) (xs ++ ys)) : RowAt w (some ⟨b, off + xs.length, none⟩) ys := by
  intro j hj
  obtain ⟨b', off', e, hb, hc⟩ := h (xs.length + j) (by rw [List.length_append]; omega)
  cases e
  refine ⟨b, off + xs.length, rfl, hb, ?_⟩
  rw [Nat.add_assoc, hc]
  congr 2
  rw [List.getElem_append_right (by omega)]
  simp

theorem RowAt.tail {w : World} {ao : Option Addr} {xs ys : List Int} (h : RowAt w ao (xs ++ ys)) : RowAt w (Option.map (fun x => x.add xs.length) ao) ys := by
  intro j hj
  obtain ⟨b, off, rfl, _, _⟩ := h (xs.length + j) (by rw [List.length_append]; omega)
  have e : Option.map (fun x => Addr.add x xs.length) (some (⟨b, off, none⟩ : Addr)) = some ⟨b, off + xs.length, none⟩ := by
    rw [Option.map_some, Lib.add_plain]
  rw [e]
  exact h.right j hj

theorem RowAt.empty {w : World} {ao : Option Addr} {xs : List Int} (h : xs.length = 0) : RowAt w ao xs := fun j hj => by omega

theorem runes_txt (zs : List Int) : runes (txt zs) = picks zs := runes_ofL _ (picks_ok zs)
theorem runes_two (a b : List Int) : runes (txt a ++ txt b) = picks a ++ picks b := by
  have e : txt a ++ txt b = ofL (picks a ++ picks b) := by simp [txt, ofL]
  rw [e]
  refine runes_ofL _ ?_
  have h1 := picks_ok a
  have h2 := picks_ok b
  unfold ofOk at *
  rw [List.all_append, h1, h2]
  rfl
theorem okL_two (a b : List Int) : okL (txt a ++ txt b) = true := by
  have e : txt a ++ txt b = ofL (picks a ++ picks b) := by simp [txt, ofL]
  rw [e]
  refine okL_ofL _ ?_
  have h1 := picks_ok a
  have h2 := picks_ok b
  unfold ofOk at *
  rw [List.all_append, h1, h2]
  rfl

theorem quoteL_two (a b : List Int) : (quoteL (txt a)).take ((quoteL (txt a)).length - 1) ++ (quoteL (txt b)).drop 1 = quoteL (txt a ++ txt b) := by
  unfold quoteL
  rw [runes_txt, runes_txt, runes_two]
  simp

theorem flatMap_len (f : Int → List UInt8) (n : Nat) (h : ∀ x, (f x).length ≤ n) : ∀ xs : List Int, (xs.flatMap f).length ≤ n * xs.length
  | [] => by simp
  | x :: t => by
    have h1 := flatMap_len f n h t
    have h2 := h x
    rw [List.flatMap_cons, List.length_append, List.length_cons, Nat.mul_add]
    omega
theorem quoteL_txt (a : List Int) : 1 ≤ (quoteL (txt a)).length ∧ (quoteL (txt a)).length ≤ 1000 := by
  have h1 := flatMap_len quoL 6 quoL_len (picks a)
  have h2 := picks_len a
  unfold quoteL
  rw [runes_txt, List.length_cons, List.length_append]
  simp only [List.length_cons, List.length_nil]
  omega

set_option maxHeartbeats 4000000 in
set_option maxRecDepth 1000000 in
theorem joins_walk (a b : List Int) (ao bo : Option Addr) (ca cb : Nat) (w : World) (hf : Fit w) (ha : IntsAt w ao a) (hb : IntsAt w bo b) (hla : a.length ≤ 9223372036854775807) (hlb : b.length ≤ 9223372036854775807) :
    Calls Tryd.prog 3 #[.slice ao a.length ca, .slice bo b.length cb] w fun e w' => e = .returned (.bool true) ∧ Below w.heap.size w w' := by
  go_enter Tryd.func3, Tryd.ntmps3
  go_wp2_with fail
  refine (known_any _ hf).mono ?_
  rintro e w1 ⟨rfl, b1⟩
  have hf1 := hf.below b1
  have ha1 := ha.below b1
  have hb1 := hb.below b1
  go_wp2_with fail
  refine (lawOf_txt a ao ca _ hla ha1).mono ?_
  rintro e w2 ⟨s, rfl, hs, hsz, b2⟩
  have HS := hide hs
  clear hs
  have hf2 := hf1.below b2
  have hb2 := hb1.below b2
  have bw2 := b1.trans (b2.mono b1.size)
  go_wp2_with fail
  refine (lawOf_txt b bo cb _ hlb hb2).mono ?_
  rintro e w3 ⟨t, rfl, ht, htz, b3⟩
  have HT := hide ht
  clear ht
  have hf3 := hf2.below b3
  have bw3 := bw2.trans (b3.mono bw2.size)
  clear hf hf1 hf2 ha ha1 hb hb1 hb2
  go_wp2_with fail
  refine (runes_row s _ (by omega)).mono ?_
  rintro e w4 ⟨xo, cx, rfl, rx, lx, mx, b4⟩
  have bw4 := bw3.trans (b4.mono bw3.size)
  rw [unhide HS, runes_txt] at rx lx ⊢
  go_wp2_with fail
  refine (runes_row t _ (by omega)).mono ?_
  rintro e w5 ⟨yo, cy, rfl, ry, ly, my, b5⟩
  have bw5 := bw4.trans (b5.mono bw4.size)
  have rx5 := rx.below b5
  rw [unhide HT, runes_txt] at ry ly ⊢
  clear rx
  go_wp2_with fail
  have hst : (s ++ t).data.toList = txt a ++ txt b := by
    rw [← unhide HS, ← unhide HT]
    simp
  have hstz : (s ++ t).size ≤ 320 := by
    rw [ByteArray.size_append]
    omega
  refine (runes_row (s ++ t) _ (by omega)).mono ?_
  rintro e w6 ⟨zo, cz, rfl, rz, lz, mz, b6⟩
  have HST := hide hst
  clear hst
  have bw6 := bw5.trans (b6.mono bw5.size)
  have rx6 := rx5.below b6
  have ry6 := ry.below b6
  rw [unhide HST, runes_two] at rz lz ⊢
  clear rx5 ry
  have pl := picks_len a
  have ql := picks_len b
  rw [List.length_append] at lz ⊢
  generalize picks a = xs at *
  generalize picks b = ys at *
  go_wp2_with fail
  refine (same_any xs xs zo xo cz cx _ rz.left rx6 (by omega)).mono ?_
  rintro e w7 ⟨rfl, b7⟩
  have bw7 := bw6.trans (b7.mono bw6.size)
  rw [show (xs == xs) = true from beq_self_eq_true xs]
  have rz7 := rz.below b7
  have ry7 := ry6.below b7
  clear rz ry6 rx6
  have hq1 := quoteL_two a b
  have HQ := hide hq1
  have HOK := hide (okL_two a b)
  clear hq1
  go_wp2_with fail
  · have h0 : ys.length = 0 := by omega
    refine (same_any ys ys _ yo _ cy _ (RowAt.empty h0) ry7 (by omega)).mono ?_
    rintro e w8 ⟨rfl, b8⟩
    have bw8 := bw7.trans (b8.mono bw7.size)
    rw [show (ys == ys) = true from beq_self_eq_true ys]
    have hf8 : Fit w8 := ((((hf3.below b4).below b5).below b6).below b7).below b8
    go_wp2_with fail
    refine (check_any (s ++ t) _).mono ?_
    rintro e w9 ⟨rfl, b9⟩
    rw [show chk (s ++ t).data.toList = 0 from by rw [unhide HST]; exact chk_ok (unhide HOK)]
    have bw9 := bw8.trans (b9.mono bw8.size)
    have hf9 := hf8.below b9
    go_wp2_with fail
    refine (quote_fit s _ hf9 (by omega)).mono ?_
    rintro e w10 ⟨rfl, b10⟩
    have bw10 := bw9.trans (b10.mono bw9.size)
    have hf10 := hf9.below b10
    obtain ⟨p, hp⟩ : ∃ p : ByteArray, p = ⟨(quoteL s.data.toList).toArray⟩ := ⟨_, rfl⟩
    rw [← hp]
    have hp1 : p.data.toList = quoteL (txt a) := by rw [hp, unhide HS]
    have HP := hide hp1
    clear hp hp1
    go_wp2_with fail
    refine (quote_fit t _ hf10 (by omega)).mono ?_
    rintro e w11 ⟨rfl, b11⟩
    have bw11 := bw10.trans (b11.mono bw10.size)
    have hf11 := hf10.below b11
    obtain ⟨q, hq⟩ : ∃ q : ByteArray, q = ⟨(quoteL t.data.toList).toArray⟩ := ⟨_, rfl⟩
    rw [← hq]
    have hq1 : q.data.toList = quoteL (txt b) := by rw [hq, unhide HT]
    have HQ2 := hide hq1
    clear hq hq1
    go_wp2_with fail
    refine (quote_fit (s ++ t) _ hf11 (by omega)).mono ?_
    rintro e w12 ⟨rfl, b12⟩
    have bw12 := bw11.trans (b12.mono bw11.size)
    obtain ⟨r, hr⟩ : ∃ r : ByteArray, r = ⟨(quoteL (s ++ t).data.toList).toArray⟩ := ⟨_, rfl⟩
    rw [← hr]
    have hr1 : r.data.toList = quoteL (txt a ++ txt b) := by rw [hr, unhide HST]
    have HR := hide hr1
    clear hr hr1
    have p1 : 1 ≤ p.size ∧ p.size ≤ 1000 := by rw [Lib.size_eq, unhide HP]; exact quoteL_txt a
    have q1 : 1 ≤ q.size ∧ q.size ≤ 1000 := by rw [Lib.size_eq, unhide HQ2]; exact quoteL_txt b
    obtain ⟨p1, p2⟩ := p1
    obtain ⟨q1, q2⟩ := q1
    clear hf3 hf8 hf9 hf10 hf11
    go_wp2_with fail
    go_quiet (fail)
    go_wp2
    go_ret
    refine ⟨ret_bool ?_, below_drewN bw12 _⟩
    rw [beq_iff_eq, ByteArray.toList_eq, ByteArray.toList_eq, unhide HR, ← unhide HQ, ← unhide HP, ← unhide HQ2]
    rw [show (p.extract 0 (p.size - 1) ++ q.extract 1 q.size).data.toList = (p.extract 0 (p.size - 1)).data.toList ++ (q.extract 1 q.size).data.toList from by simp, extract_list, extract_list, List.drop_zero, Lib.size_eq, Lib.size_eq, Nat.sub_zero, List.take_of_length_le (l := List.drop 1 q.data.toList) (by rw [List.length_drop]; exact Nat.le_refl _)]
  · refine (same_any ys ys _ yo _ cy _ rz7.tail ry7 (by omega)).mono ?_
    rintro e w8 ⟨rfl, b8⟩
    have bw8 := bw7.trans (b8.mono bw7.size)
    rw [show (ys == ys) = true from beq_self_eq_true ys]
    have hf8 : Fit w8 := ((((hf3.below b4).below b5).below b6).below b7).below b8
    go_wp2_with fail
    refine (check_any (s ++ t) _).mono ?_
    rintro e w9 ⟨rfl, b9⟩
    rw [show chk (s ++ t).data.toList = 0 from by rw [unhide HST]; exact chk_ok (unhide HOK)]
    have bw9 := bw8.trans (b9.mono bw8.size)
    have hf9 := hf8.below b9
    go_wp2_with fail
    refine (quote_fit s _ hf9 (by omega)).mono ?_
    rintro e w10 ⟨rfl, b10⟩
    have bw10 := bw9.trans (b10.mono bw9.size)
    have hf10 := hf9.below b10
    obtain ⟨p, hp⟩ : ∃ p : ByteArray, p = ⟨(quoteL s.data.toList).toArray⟩ := ⟨_, rfl⟩
    rw [← hp]
    have hp1 : p.data.toList = quoteL (txt a) := by rw [hp, unhide HS]
    have HP := hide hp1
    clear hp hp1
    go_wp2_with fail
    refine (quote_fit t _ hf10 (by omega)).mono ?_
    rintro e w11 ⟨rfl, b11⟩
    have bw11 := bw10.trans (b11.mono bw10.size)
    have hf11 := hf10.below b11
    obtain ⟨q, hq⟩ : ∃ q : ByteArray, q = ⟨(quoteL t.data.toList).toArray⟩ := ⟨_, rfl⟩
    rw [← hq]
    have hq1 : q.data.toList = quoteL (txt b) := by rw [hq, unhide HT]
    have HQ2 := hide hq1
    clear hq hq1
    go_wp2_with fail
    refine (quote_fit (s ++ t) _ hf11 (by omega)).mono ?_
    rintro e w12 ⟨rfl, b12⟩
    have bw12 := bw11.trans (b12.mono bw11.size)
    obtain ⟨r, hr⟩ : ∃ r : ByteArray, r = ⟨(quoteL (s ++ t).data.toList).toArray⟩ := ⟨_, rfl⟩
    rw [← hr]
    have hr1 : r.data.toList = quoteL (txt a ++ txt b) := by rw [hr, unhide HST]
    have HR := hide hr1
    clear hr hr1
    have p1 : 1 ≤ p.size ∧ p.size ≤ 1000 := by rw [Lib.size_eq, unhide HP]; exact quoteL_txt a
    have q1 : 1 ≤ q.size ∧ q.size ≤ 1000 := by rw [Lib.size_eq, unhide HQ2]; exact quoteL_txt b
    obtain ⟨p1, p2⟩ := p1
    obtain ⟨q1, q2⟩ := q1
    clear hf3 hf8 hf9 hf10 hf11
    go_wp2_with fail
    go_quiet (fail)
    go_wp2
    go_ret
    refine ⟨ret_bool ?_, below_drewN bw12 _⟩
    rw [beq_iff_eq, ByteArray.toList_eq, ByteArray.toList_eq, unhide HR, ← unhide HQ, ← unhide HP, ← unhide HQ2]
    rw [show (p.extract 0 (p.size - 1) ++ q.extract 1 q.size).data.toList = (p.extract 0 (p.size - 1)).data.toList ++ (q.extract 1 q.size).data.toList from by simp, extract_list, extract_list, List.drop_zero, Lib.size_eq, Lib.size_eq, Nat.sub_zero, List.take_of_length_le (l := List.drop 1 q.data.toList) (by rw [List.length_drop]; exact Nat.le_refl _)]
end Go.Proofs.YtiokpdpegkbgiabDoor
