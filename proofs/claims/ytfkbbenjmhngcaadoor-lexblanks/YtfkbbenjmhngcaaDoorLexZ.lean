/-
  chancelref4.Tokens: what it returns.
-/
import Derived.Test.YtfkbbenjmhngcaaDoorLexY
namespace Go.Proofs.YtfkbbenjmhngcaaDoor
open Go.RowKit

theorem infoRToken : (Tryd.prog.info? 55).map (fun i => (i.zero, i.size, i.bytes)) = some (some (.agg #[.int .i64 0, .string ⟨#[]⟩, .int .i64 0, .int .i64 0]), 4, 40) := by kernel_rfl
theorem at4_rnew (w : World) (k : Int) (y : ByteArray) (n p : Int) : At4 (w.alloc (.cells #[.int .i64 k, .string y, .int .i64 n, .int .i64 p] 55)) w.heap.size 0 k y n p :=
  ⟨by simp, by simp, by simp, by simp⟩

set_option maxHeartbeats 4000000 in
set_option maxRecDepth 1000000 in
theorem rtokens_any (s : ByteArray) (w : World) (hs : s.size ≤ 1048576) :
    Calls Tryd.prog 13 #[.string s] w fun e w' => ∃ v, e = .returned (.tuple #[v, .int .i64 (toks s.data.toList).2]) ∧ w'.ownsRow w.heap.size 55 4 v (toks s.data.toList).1.length (cellsT (toks s.data.toList).1) ∧ Below w.heap.size w w' := by
  obtain ⟨i0, hi, hz0, hz1, hz2⟩ := info_parts infoRToken
  have C := fun W => rcheck_any s W (by omega)
  by_cases h600 : 600 < s.size
  · have i1 : (600 : Int) < (s.size : Int) := by omega
    have e : toks s.data.toList = ([], 5) := by rw [toks, if_pos (by rw [← Lib.size_eq]; exact h600)]
    rw [e]
    clear e
    go_enter Tryd.func13, Tryd.ntmps13
    go_wp2
    exact bodyPost_ret (v := .tuple #[.slice none 0 0, .int .i64 5]) (by simp [results, Tryd.results13, go_sem]) rfl ⟨_, rfl, World.ownsRow_nil _ _ _ _, Below.refl _ w⟩
  have i1 : ¬ (600 : Int) < (s.size : Int) := by omega
  cases hok : okL s.data.toList with
  | false =>
    have e : toks s.data.toList = ([], 11) := by rw [toks, if_neg (by rw [← Lib.size_eq]; exact h600), hok]; rfl
    rw [e]
    rw [chk_bad hok] at C
    clear e hok
    go_enter Tryd.func13, Tryd.ntmps13
    go_wp2_with fail
    refine (C _).mono ?_
    rintro e w1 ⟨rfl, rfl⟩
    go_wp2
    exact bodyPost_ret (v := .tuple #[.slice none 0 0, .int .i64 11]) (by simp [results, Tryd.results13, go_sem]) rfl ⟨_, rfl, World.ownsRow_nil _ _ _ _, Below.refl _ _⟩
  | true =>
    have e : toks s.data.toList = toksL s.data.toList 0 [] := by rw [toks, if_neg (by rw [← Lib.size_eq]; exact h600), hok]; rfl
    rw [e]
    rw [chk_ok hok] at C
    clear e hok
    obtain ⟨R, hR⟩ : ∃ R, R = toksL s.data.toList 0 [] := ⟨_, rfl⟩
    rw [← hR]
    have B0 := fun W => blank_any s 0 (Nat.zero_le _) hs W
    rw [List.drop_zero, Nat.zero_add] at B0
    have hk0 := skip_le _ s.data.toList (Nat.le_refl _)
    rw [← Lib.size_eq] at hk0
    have hke := skip_end _ s.data.toList (Nat.le_refl _)
    have hkt : toksL (s.data.toList.drop (skip s.data.toList)) (skip s.data.toList) [] = R := by
      rw [hR, toksL_skip _ s.data.toList 0 [] (Nat.le_refl _), Nat.zero_add]
    obtain ⟨k0, hkk⟩ : ∃ k0, k0 = skip s.data.toList := ⟨_, rfl⟩
    rw [← hkk] at B0 hk0 hke hkt
    have Hke := hide hke
    have Hkt := hide hkt
    clear hR hkk hke hkt
    go_enter Tryd.func13, Tryd.ntmps13
    go_wp2_with fail
    refine (C _).mono ?_
    rintro e w1 ⟨rfl, rfl⟩
    go_wp2_with fail
    refine (B0 _).mono ?_
    rintro e w2 ⟨rfl, rfl⟩
    go_wp2
    go_loopw [4, 5] (fun lv iv wr => ∃ (i : Nat) (acc : List Tok), i ≤ s.size ∧ iv = .int .i64 i ∧ wr.ownsRow w2.heap.size 55 4 lv acc.length (cellsT acc) ∧ Below w2.heap.size w2 wr ∧ acc.length ≤ 200 ∧ (s.data.toList.drop i = [] ∨ gapL (s.data.toList.drop i) = 0) ∧
        toksL (s.data.toList.drop i) i acc = R) (fun _ iv _ => s.size - (intOf iv).toNat)
    case atStart => exact ⟨k0, [], hk0, rfl, World.ownsRow_nil _ _ _ _, Below.refl _ _, by simp, unhide Hke, unhide Hkt⟩
    case round =>
      obtain ⟨i, acc, his, rfl, hown, hbw, h200, hgap, hacc⟩ := hrel
      have Hacc := hide hacc
      have Hgap := hide hgap
      clear hacc hgap
      obtain ⟨ao, cap, rfl⟩ := owns_any hown
      by_cases hlt : i < s.size
      · have i2 : (i : Int) < (s.size : Int) := by omega
        have N := fun W => next_any s i hlt hs W
        have hne := drop_ne hlt
        have hgz : gapL (s.data.toList.drop i) = 0 := (unhide Hgap).resolve_left hne
        have Hne := hide hne
        have Hgz := hide hgz
        clear hne hgz
        go_wp2_with fail
        refine (N _).mono ?_
        rintro e w4 ⟨k, y, n, z, rfl, hpost, b4⟩
        have hown4 := owns_below b4 hown
        have b04 := hbw.trans (b4.mono hbw.size)
        obtain ⟨er, her⟩ : ∃ er, er = (tokL (s.data.toList.drop i)).e := ⟨_, rfl⟩
        rw [← her] at hpost ⊢
        have Hpost := hide hpost
        have Her := hide her
        clear hpost her N hown hbw
        by_cases he : er = 0
        · subst he
          obtain ⟨hk, hy, hn, hz⟩ := unhide Hpost rfl
          have het : (tokL (s.data.toList.drop i)).e = 0 := (unhide Her).symm
          obtain ⟨t1, t2, _⟩ := tok_far _ (unhide Hne) het
          rw [List.length_drop, ← Lib.size_eq] at t2
          obtain ⟨zn, hzn⟩ : ∃ zn, zn = (tokL (s.data.toList.drop i)).z := ⟨_, rfl⟩
          rw [← hzn] at t1 t2 hz
          subst hz
          have hec : (⟨(tokL (s.data.toList.drop i)).k, (tokL (s.data.toList.drop i)).s, (tokL (s.data.toList.drop i)).n, i⟩ : Tok).cells = [.int .i64 k, .string y, .int .i64 n, .int .i64 i] := by rw [hk, hy, hn]; rfl
          have Hec := hide hec
          have Het := hide het
          have Hzn := hide hzn
          clear hk hy hn hec het hzn
          by_cases hm : acc.length = 200
          · have i4 : (200 : Int) ≤ (acc.length : Int) := by omega
            have hres : R = ([], 4) := by rw [← unhide Hacc, toksL_many i acc (unhide Hne) (unhide Hgz) (unhide Het) hm]
            have Hres := hide hres
            clear hres
            go_wp2
            exact bodyPost_ret (v := .tuple #[.slice none 0 0, .int .i64 4]) (by simp [results, Tryd.results13, go_sem]) rfl ⟨_, by rw [unhide Hres], by rw [unhide Hres]; exact World.ownsRow_nil _ _ _ _, b04.alloc b04.size _⟩
          · have i4 : ¬ (200 : Int) ≤ (acc.length : Int) := by omega
            have BL := fun W => blank_any s (i + zn) (by omega) hs W
            have hkt : toksL (s.data.toList.drop (i + zn)) (i + zn) (acc ++ [⟨(tokL (s.data.toList.drop i)).k, (tokL (s.data.toList.drop i)).s, (tokL (s.data.toList.drop i)).n, i⟩]) = R := by
              rw [← unhide Hacc, toksL_tok i acc (unhide Hne) (unhide Hgz) (unhide Het) hm, ← unhide Hzn, List.drop_drop]
            rw [toksL_skip _ (s.data.toList.drop (i + zn)) (i + zn) _ (Nat.le_refl _), List.drop_drop] at hkt
            have hke := skip_end _ (s.data.toList.drop (i + zn)) (Nat.le_refl _)
            rw [List.drop_drop] at hke
            have hkl := skip_le _ (s.data.toList.drop (i + zn)) (Nat.le_refl _)
            rw [List.length_drop, ← Lib.size_eq] at hkl
            obtain ⟨j, hj⟩ : ∃ j, j = i + zn + skip (s.data.toList.drop (i + zn)) := ⟨_, rfl⟩
            rw [← hj] at hkt hke BL
            have hjs : j ≤ s.size := by omega
            have hij : i < j := by omega
            have Hkt := hide hkt
            have Hke2 := hide hke
            clear hkt hke hkl hj
            rw [show ((i + zn : Nat) : Int) = (i : Int) + (zn : Int) by omega] at BL
            have b5 : Below w2.heap.size w2 (w4.alloc (.cells #[.int .i64 k, .string y, .int .i64 n, .int .i64 i] 55)) := b04.alloc b04.size _
            have hown5 := hown4.alloc (.cells #[.int .i64 k, .string y, .int .i64 n, .int .i64 i] 55)
            have hblk := at4_rnew w4 k y n i
            go_upto_region 13 with fail
            generalize w5e : w4.alloc (.cells #[.int .i64 k, .string y, .int .i64 n, .int .i64 i] 55) = w5 at *
            clear w5e hown4
            obtain ⟨a0, a1, a2, a3⟩ := hblk
            simp only [Nat.zero_add] at a1 a2 a3
            go_wp2_with (at_builtin; refine wpList_append_own _ rfl _ _ 31 rfl w2.heap.size 55 i0 _ 4 40 Tryd.underlying31 hi hz0 hz1 hz2 rfl (by decide) _ _ _ rfl (hown5.alloc _) ⟨w5.heap.size, 0, none⟩ 1 1 [.int .i64 k, .string y, .int .i64 n, .int .i64 i] rfl rfl ?c1 ?c2 ?c3 ?c4 ?c5 ?_)
            case c1 =>
              intro j u hj
              match j, hj with
              | 0, hj => simp at hj; subst hj; simp [Addr.add]
              | 1, hj => simp at hj; subst hj; simp [Addr.add]
              | 2, hj => simp at hj; subst hj; simp [Addr.add]
              | 3, hj => simp at hj; subst hj; simp [Addr.add]
            case c2 => intro u hu; simp at hu; rcases hu with rfl | rfl | rfl | rfl <;> rfl
            case c3 => unfold maxLen; omega
            case c4 => omega
            case c5 => have := b5.size; simp; omega
            intro v6 w6 hown6 hgrow _
            have b6 : Below w2.heap.size w2 w6 := (b5.alloc b5.size _).grown hgrow (by have := b5.size; simp; omega) (fun j hj => by have := (hown5.alloc (.cells #[.int .i64 k, .string y, .int .i64 n, .int .i64 i] 55)).lt j hj; omega)
            have Hown6 := hide hown6
            clear hown6 hgrow a0 a1 a2 a3 hown5
            go_wp2_with fail
            refine (BL _).mono ?_
            rintro e w7 ⟨rfl, rfl⟩
            go_wp2
            go_roundw
            case rel =>
              refine ⟨j, acc ++ [⟨(tokL (s.data.toList.drop i)).k, (tokL (s.data.toList.drop i)).s, (tokL (s.data.toList.drop i)).n, i⟩], hjs, rfl, ?_, b6, by simp; omega, unhide Hke2, unhide Hkt⟩
              rw [cellsT_snoc, unhide Hec]
              simpa using unhide Hown6
            case measure =>
              simp only [intOf]
              omega
        · have hx : (er != 0) = true := by simpa using he
          have hres : R = ([], er) := by rw [← unhide Hacc, toksL_err i acc (unhide Hne) (unhide Hgz) (by rw [← unhide Her]; exact he), ← unhide Her]
          have Hres := hide hres
          clear hres he
          go_wp2
          exact bodyPost_ret (v := .tuple #[.slice none 0 0, .int .i64 er]) (by simp [results, Tryd.results13, go_sem]) rfl ⟨_, by rw [unhide Hres], by rw [unhide Hres]; exact World.ownsRow_nil _ _ _ _, b04.alloc b04.size _⟩
      · have i2 : ¬ (i : Int) < (s.size : Int) := by omega
        have hres : R = (acc, 0) := by rw [← unhide Hacc, drop_end hlt, toksL_nil]
        have Hres := hide hres
        clear hres
        go_wp2
        exact bodyPost_ret (v := .tuple #[.slice ao acc.length cap, .int .i64 0]) (by simp [results, Tryd.results13, go_sem]) rfl ⟨_, by rw [unhide Hres], by rw [unhide Hres]; exact hown, hbw⟩
end Go.Proofs.YtfkbbenjmhngcaaDoor
