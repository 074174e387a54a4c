/-
  chancellaw4.LexNames: the walk.
-/
import Derived.Test.YtfkbbenjmhngcaaDoorLexK
import Derived.Test.YtfkbbenjmhngcaaDoorLexQ
import Derived.Test.YtfkbbenjmhngcaaDoorLArgs
namespace Go.Proofs.YtfkbbenjmhngcaaDoor
open Go.RowKit

theorem ident_any (s : ByteArray) (w : World) (hs : s.size ≤ 1099511627776) : Calls Tryd.prog 15 #[.string s] w fun e w' => e = .returned (.bool (nameB s.data.toList)) ∧ Below w.heap.size w w' := by
  have N := fun w => isName_any s w hs
  go_enter Tryd.func15, Tryd.ntmps15
  go_wp2_with fail
  refine (N _).mono ?_
  rintro e w1 ⟨rfl, b1⟩
  go_wp2
  go_ret
  exact ⟨rfl, b1⟩

/-- What is made so far. -/
structure NmAt (t : ByteArray) (i : Nat) : Prop where
  size : t.size = i
  all : ∀ b ∈ t.data.toList, nmB b = true
  head : 0 < i → letB (t.data.toList.getD 0 0) = true

theorem NmAt.next {t : ByteArray} {i : Nat} (h : NmAt t i) (c : UInt8) (hc : nmB c = true) (h0 : i = 0 → letB c = true) : NmAt (t ++ ⟨#[c]⟩) (i + 1) := by
  have e : (t ++ (⟨#[c]⟩ : ByteArray)).data.toList = t.data.toList ++ [c] := by simp
  refine ⟨by rw [Lib.size_eq, e, List.length_append, ← Lib.size_eq, h.size]; rfl, ?_, fun _ => ?_⟩
  · rw [e]
    intro b hb
    rcases List.mem_append.1 hb with hb | hb
    · exact h.all b hb
    · rw [List.mem_singleton.1 hb]
      exact hc
  · rw [e]
    by_cases hi : i = 0
    · have : t.data.toList = [] := List.length_eq_zero_iff.1 (by rw [← Lib.size_eq, h.size, hi])
      rw [this]
      exact h0 hi
    · have hl : 0 < t.data.toList.length := by rw [← Lib.size_eq, h.size]; omega
      rw [List.getD_eq_getElem?_getD, List.getElem?_append_left hl, ← List.getD_eq_getElem?_getD]
      exact h.head (by omega)

theorem nms_at (k : Nat) (hk : k < 10) : ∃ c : UInt8, (ByteArray.mk #[97, 98, 99, 88, 89, 90, 95, 48, 49, 57]).extract k (k + 1) = ⟨#[c]⟩ ∧ nmB c = true ∧ (k ≤ 6 → letB c = true) := by
  have : ∀ k : Fin 10, ∃ c : UInt8, (ByteArray.mk #[97, 98, 99, 88, 89, 90, 95, 48, 49, 57]).extract k.val (k.val + 1) = ⟨#[c]⟩ ∧ nmB c = true ∧ (k.val ≤ 6 → letB c = true) := by
    intro k
    match k with
    | ⟨0, _⟩ => exact ⟨97, rfl, by decide, fun _ => by decide⟩
    | ⟨1, _⟩ => exact ⟨98, rfl, by decide, fun _ => by decide⟩
    | ⟨2, _⟩ => exact ⟨99, rfl, by decide, fun _ => by decide⟩
    | ⟨3, _⟩ => exact ⟨88, rfl, by decide, fun _ => by decide⟩
    | ⟨4, _⟩ => exact ⟨89, rfl, by decide, fun _ => by decide⟩
    | ⟨5, _⟩ => exact ⟨90, rfl, by decide, fun _ => by decide⟩
    | ⟨6, _⟩ => exact ⟨95, rfl, by decide, fun _ => by decide⟩
    | ⟨7, _⟩ => exact ⟨48, rfl, by decide, fun h => by simp at h⟩
    | ⟨8, _⟩ => exact ⟨49, rfl, by decide, fun h => by simp at h⟩
    | ⟨9, _⟩ => exact ⟨57, rfl, by decide, fun h => by simp at h⟩
  exact this ⟨k, hk⟩

set_option maxHeartbeats 4000000 in
set_option maxRecDepth 1000000 in
theorem names_walk (zs : List Int) (ao : Option Addr) (cap : Nat) (d : Int) (w : World) (hS : Signs w) (_hl : zs.length ≤ 9223372036854775807) (hz : IntsAt w ao zs) :
    Calls Tryd.prog 7 #[.slice ao zs.length cap, .int .i64 d] w fun e w' => e = .returned (.bool true) ∧ Below w.heap.size w w' := by
  have K := known4_any w hS
  go_enter Tryd.func7, Tryd.ntmps7
  go_wp2_with fail
  refine K.mono ?_
  rintro e w1 ⟨rfl, b1⟩
  have hz1 := hz.below b1
  have hS1 := hS.below b1
  clear hz hS K
  go_wp2
  have hsm : ∃ SM : ByteArray, SM = ⟨#[97, 98, 99, 88, 89, 90, 95, 48, 49, 57]⟩ := ⟨_, rfl⟩
  obtain ⟨SM, hSM⟩ := hsm
  rw [← hSM]
  have hsz : SM.size = 10 := by rw [hSM]; rfl
  have HSM := hide hSM
  clear hSM
  go_loopw [5, 7] (fun sv iv wr => ∃ (i : Nat) (t : ByteArray), i ≤ zs.length ∧ i ≤ 12 ∧ sv = .string t ∧ iv = .int .i64 i ∧ NmAt t i ∧ wr = w1) (fun _ iv _ => 12 - (intOf iv).toNat)
  case atStart => exact ⟨0, _, Nat.zero_le _, by decide, rfl, rfl, ⟨rfl, fun b hb => by simp at hb, fun h => by omega⟩, rfl⟩
  case round =>
    obtain ⟨i, t, hi, hi12, rfl, rfl, hnm, rfl⟩ := hrel
    have Hnm := hide hnm
    clear hnm
    by_cases hc : i < zs.length ∧ i < 12
    · obtain ⟨hc1, hc2⟩ := hc
      have hts : t.size ≤ 12 := by rw [(unhide Hnm).size]; exact hi12
      have i1 : (i : Int) < (zs.length : Int) := by omega
      have i2 : (i : Int) < 12 := by omega
      obtain ⟨b, off, rfl, hb, hcell⟩ := hz1 i hc1
      obtain ⟨x, hx⟩ : ∃ x, x = zs[i] := ⟨_, rfl⟩
      rw [← hx] at hcell
      clear hx
      have W := within4_any x 10 (by decide) (by decide)
      obtain ⟨k, hk⟩ : ∃ k : Nat, (k : Int) = x % 10 := ⟨(x % 10).toNat, by omega⟩
      have hk10 : k < 10 := by omega
      rw [← hk] at W
      clear hk
      have fin : ∀ (k : Nat), k < 10 → (i = 0 → k ≤ 6) → ∃ C : ByteArray, C.size ≤ 1 ∧ (∀ W, (Instr.slice 9 (.string SM) (some (.int .i64 (k : Int))) (some (.int .i64 ((k : Int) + 1))) none).run Tryd.prog W = .ok (.string C) W) ∧ NmAt (t ++ C) (i + 1) := by
        intro k hk h6
        obtain ⟨c, e, hc, hl⟩ := nms_at k hk
        refine ⟨⟨#[c]⟩, Nat.le_refl _, fun W => ?_, (unhide Hnm).next c hc (fun h => hl (h6 h))⟩
        have := run_slice_string W 9 SM .i64 .i64 (k : Int) ((k : Int) + 1) Tryd.underlying9 (by omega) (by omega) (by omega)
        rw [this, show ((k : Int) + 1).toNat = k + 1 by omega, Int.toNat_natCast, unhide HSM, e]
      by_cases h0 : i = 0
      · have i0 : ((i : Int) == 0) = true := by simpa using (show (i : Int) = 0 by omega)
        by_cases h6 : 6 < k
        · have i3 : (6 : Int) < (k : Int) := by omega
          have hn : NmAt (t ++ SM.extract 0 1) (i + 1) := by
            obtain ⟨c, e, hc, hl⟩ := nms_at 0 (by decide)
            rw [unhide HSM, e]
            exact (unhide Hnm).next c hc (fun _ => hl (by decide))
          have Hn := hide hn
          clear fin hn h0
          go_wp2_with (go_at_call 11; refine (W _).mono ?_; rintro e w' ⟨rfl, rfl⟩)
          go_roundw
          case rel => exact ⟨i + 1, _, by omega, by omega, rfl, by go_num, unhide Hn, by trivial⟩
          case measure =>
            simp only [intOf]
            omega
        · have i3 : ¬ (6 : Int) < (k : Int) := by omega
          obtain ⟨c, hcs, hsl, hn⟩ := fin k hk10 (fun _ => by omega)
          have Hn := hide hn
          clear fin hn h0
          go_wp2_with (go_at_call 11; refine (W _).mono ?_; rintro e w' ⟨rfl, rfl⟩)
          go_roundw
          case rel => exact ⟨i + 1, _, by omega, by omega, rfl, by go_num, unhide Hn, by trivial⟩
          case measure =>
            simp only [intOf]
            omega
      · have i0 : ((i : Int) == 0) = false := by simpa using (show ¬ (i : Int) = 0 by omega)
        obtain ⟨c, hcs, hsl, hn⟩ := fin k hk10 (fun h => absurd h h0)
        have Hn := hide hn
        clear fin hn
        go_wp2_with (go_at_call 11; refine (W _).mono ?_; rintro e w' ⟨rfl, rfl⟩)
        go_roundw
        case rel => exact ⟨i + 1, _, by omega, by omega, rfl, by go_num, unhide Hn, by trivial⟩
        case measure =>
          simp only [intOf]
          omega
    · by_cases he : i = 0
      · have ht : t = ⟨#[]⟩ := by
          apply ByteArray.ext
          apply Array.toList_inj.1
          have : t.data.toList.length = 0 := by rw [← Lib.size_eq, (unhide Hnm).size, he]
          exact List.length_eq_zero_iff.1 this
        subst ht
        have I := ident_any ⟨#[]⟩ wr (by decide)
        rw [show nameB (ByteArray.mk #[]).data.toList = false from rfl] at I
        have hcc : ¬ ((i : Int) < (zs.length : Int)) ∨ ((i : Int) < (zs.length : Int) ∧ ¬ ((i : Int) < 12)) := by omega
        clear he
        rcases hcc with i1 | ⟨i1, i2⟩
        all_goals (
          go_wp2_with (go_at_call 15; refine I.mono ?_; rintro e w2 ⟨rfl, b2⟩)
          go_ret
          exact ⟨rfl, b1.trans (b2.mono b1.size)⟩)
      · have hne : t.data.toList ≠ [] := fun h => he (by rw [← (unhide Hnm).size, Lib.size_eq, h]; rfl)
        have hl12 : t.data.toList.length ≤ 12 := by rw [← Lib.size_eq, (unhide Hnm).size]; exact hi12
        have hh := (unhide Hnm).head (by omega)
        have ha := (unhide Hnm).all
        have hts : t.size ≤ 12 := by rw [(unhide Hnm).size]; exact hi12
        have htne : t.toList.isEmpty = false := by
          rw [ByteArray.toList_eq]
          simpa using hne
        have T1 := fun W h => tokens_any t W h (by omega)
        rw [toks_name _ hh ha hne hl12] at T1
        have hul : ((⟨#[55]⟩ : ByteArray) ++ t).data.toList = 55 :: t.data.toList := by simp
        have hus : ((⟨#[55]⟩ : ByteArray) ++ t).size ≤ 13 := by rw [Lib.size_eq, hul, List.length_cons]; omega
        have T2 := fun W h => tokens_any (⟨#[55]⟩ ++ t) W h (by omega)
        rw [hul, toks_name7 _ hh ha hne hl12] at T2
        have I1 := fun W => ident_any t W (by omega)
        rw [nameB_name _ hh ha hne hl12] at I1
        have I2 := fun W => ident_any (⟨#[55]⟩ ++ t) W (by omega)
        rw [hul, nameB_7] at I2
        have hcc : ¬ ((i : Int) < (zs.length : Int)) ∨ ((i : Int) < (zs.length : Int) ∧ ¬ ((i : Int) < 12)) := by omega
        clear he hne hl12 hh ha hul hus
        rcases hcc with i1 | ⟨i1, i2⟩
        all_goals (
          go_wp2_with fail
          refine (T1 _ hS1).mono ?_
          rintro e w2 ⟨v2, rfl, hown2, b2⟩
          obtain ⟨g2, cap2, rfl, _, hg2, _, hc2⟩ := owns_cells hown2 (by simp)
          have p0 := hc2 0 _ rfl
          have p1 := hc2 1 _ rfl
          rw [show (⟨t.data.toList.toArray⟩ : ByteArray) = t from ba_of t] at p1
          have hS2 := hS1.below b2
          clear hc2 hown2
          go_wp2_with fail
          refine (T2 _ hS2).mono ?_
          rintro e w3 ⟨v3, rfl, hown3, b3⟩
          obtain ⟨g3, cap3, rfl, _, hg3, _, hc3⟩ := owns_cells hown3 (by simp)
          have q2 := hc3 2 _ rfl
          have r0 := (b3.cell (p := ⟨g2, 0, none⟩) hg2).trans p0
          have r1 := (b3.cell (p := ⟨g2, 1, none⟩) hg2).trans p1
          clear hc3 hown3 p0 p1
          go_wp2_with fail
          refine (I1 _).mono ?_
          rintro e w4 ⟨rfl, b4⟩
          go_wp2_with fail
          refine (I2 _).mono ?_
          rintro e w5 ⟨rfl, b5⟩
          have b35 := b4.trans (b5.mono b4.size)
          have s2 := (b35.cell (p := ⟨g3, 2, none⟩) hg3).trans q2
          clear q2 r0 r1
          go_wp2
          go_ret
          have b13 := b2.trans (b3.mono b2.size)
          have b03 := b1.trans (b13.mono b1.size)
          exact ⟨rfl, b03.trans (b35.mono b03.size)⟩)
end Go.Proofs.YtfkbbenjmhngcaaDoor
