/-
  lex.Tokens: what it returns.
-/
import Derived.Test.YtlakgnnjokienaaGreatDoorLexE
import Derived.Deep.Cut
namespace Go.Proofs.YtlakgnnjokienaaGreatDoor
open Go.RowKit

theorem infoToken : (Tryz.prog.info? 70).map (fun i => (i.zero, i.size, i.bytes)) = some (some (.agg #[.int .i64 0, .string ⟨#[]⟩, .int .i64 0, .int .i64 0]), 4, 40) := by kernel_rfl

theorem owns_any {w : World} {B : Nat} {e : TypeId} {v : Value} {z n : Nat} {xs : List Value} (h : w.ownsRow B e z v n xs) : ∃ ao cap, v = .slice ao n cap := by
  rcases h.2 with ⟨h0, hz⟩ | ⟨g, cap, cur, hv, _⟩
  · exact ⟨none, 0, by rw [h0, hz]⟩
  · exact ⟨_, cap, hv⟩

/-- A token's four cells. -/
structure At4 (w : World) (b o : Nat) (k : Int) (y : ByteArray) (n p : Int) : Prop where
  c0 : w.cell? ⟨b, o, none⟩ = some (.int .i64 k)
  c1 : w.cell? ⟨b, o + 1, none⟩ = some (.string y)
  c2 : w.cell? ⟨b, o + 2, none⟩ = some (.int .i64 n)
  c3 : w.cell? ⟨b, o + 3, none⟩ = some (.int .i64 p)
theorem at4_new (w : World) (k : Int) (y : ByteArray) (n p : Int) : At4 (w.alloc (.cells #[.int .i64 k, .string y, .int .i64 n, .int .i64 p] 70)) w.heap.size 0 k y n p :=
  ⟨by simp, by simp, by simp, by simp⟩

theorem tk_val (t : Tk) (a : Nat) : ∃ (k : Int) (y : ByteArray) (n : Int) (z : Nat) (er : Int), t.ret = .tuple #[.agg #[.int .i64 k, .string y, .int .i64 n, .int .i64 0], .int .i64 z, .int .i64 er] ∧ z = t.z ∧ er = t.e ∧
    (⟨t.k, t.s, t.n, a⟩ : Tok).cells = [.int .i64 k, .string y, .int .i64 n, .int .i64 a] := ⟨_, _, _, _, _, rfl, rfl, rfl, rfl⟩

theorem rest_list (s : ByteArray) (p : Nat) : (s.extract p s.size).data.toList = s.data.toList.drop p := by
  rw [ByteArray.data_extract, Array.toList_extract, List.extract_eq_take_drop, Lib.size_eq, List.take_of_length_le (by rw [List.length_drop]; omega)]

set_option maxHeartbeats 4000000 in
set_option maxRecDepth 1000000 in
theorem tokens_any (s : ByteArray) (w : World) (hS : Signs w) (hs : s.size ≤ 1099511627776) :
    Calls Tryz.prog 19 #[.string s] w fun e w' => ∃ v, e = .returned (.tuple #[v, .int .i64 (toks s.data.toList).2]) ∧ w'.ownsRow w.heap.size 70 4 v (toks s.data.toList).1.length (cellsT (toks s.data.toList).1) ∧ Below w.heap.size w w' := by
  obtain ⟨i0, hi, hz0, hz1, hz2⟩ := info_parts infoToken
  have C := check_any s
  by_cases h600 : 600 < s.size
  · have i1 : (600 : Int) < (s.size : Int) := by omega
    have e : toks s.data.toList = ([], 5) := by rw [toks, if_pos (by rw [← Lib.size_eq]; exact h600)]
    rw [e]
    clear e
    go_enter Tryz.func19, Tryz.ntmps19
    go_wp2
    exact bodyPost_ret (v := .tuple #[.slice none 0 0, .int .i64 5]) (by simp [results, Tryz.results19, go_sem]) rfl ⟨_, rfl, World.ownsRow_nil _ _ _ _, Below.refl _ w⟩
  have i1 : ¬ (600 : Int) < (s.size : Int) := by omega
  cases hok : okL s.data.toList with
  | false =>
    have e : toks s.data.toList = ([], 11) := by rw [toks, if_neg (by rw [← Lib.size_eq]; exact h600), hok]; rfl
    rw [e]
    rw [chk_bad hok] at C
    clear e hok
    go_enter Tryz.func19, Tryz.ntmps19
    go_wp2_with fail
    refine (C _).mono ?_
    rintro e w1 ⟨rfl, b1⟩
    go_wp2
    exact bodyPost_ret (v := .tuple #[.slice none 0 0, .int .i64 11]) (by simp [results, Tryz.results19, go_sem]) rfl ⟨_, rfl, World.ownsRow_nil _ _ _ _, b1⟩
  | true =>
    have e : toks s.data.toList = toksL s.data.toList 0 [] := by rw [toks, if_neg (by rw [← Lib.size_eq]; exact h600), hok]; rfl
    rw [e]
    rw [chk_ok hok] at C
    have Hok := hide hok
    clear e hok
    obtain ⟨R, hR⟩ : ∃ R, R = toksL s.data.toList 0 [] := ⟨_, rfl⟩
    rw [← hR]
    have HR := hide hR
    clear hR
    go_enter Tryz.func19, Tryz.ntmps19
    go_wp2_with fail
    refine (C _).mono ?_
    rintro e w1 ⟨rfl, b1⟩
    go_wp2
    go_loopw [5, 6] (fun lv nv wr => ∃ (pos next : Nat) (acc : List Tok), pos ≤ s.size ∧ next ≤ s.size ∧ pos ≤ next ∧ nv = .int .i64 next ∧ wr.heap[w1.heap.size]? = some (.stringIter s pos) ∧ wr.ownsRow (w1.heap.size + 1) 70 4 lv acc.length (cellsT acc) ∧ Below w.heap.size w wr ∧
        acc.length ≤ 200 ∧ okL (s.data.toList.drop next) = true ∧ Bd (s.data.toList.drop pos) (next - pos) ∧ toksL (s.data.toList.drop next) next acc = R) (fun _ _ wr => s.size - wr.iterPos w1.heap.size)
    case atStart =>
      refine ⟨0, 0, [], Nat.zero_le _, Nat.zero_le _, Nat.le_refl _, rfl, ?_, World.ownsRow_nil _ _ _ _, b1.alloc b1.size _, by simp, by simpa using unhide Hok, .zero _, by rw [unhide HR]; simp⟩
      have := World.iter_heap w1 s 0
      simpa using this
    case round =>
      obtain ⟨pos, next, acc, hpp, hnn, hpn, rfl, hit, hown, hbw, h200, hokn, hbd, hacc⟩ := hrel
      have hsz : w1.heap.size < wr.heap.size := (Array.getElem?_eq_some_iff.1 hit).1
      have hw1 := b1.size
      have Hacc := hide hacc
      have Hokn := hide hokn
      have Hbd := hide hbd
      clear hacc hokn hbd
      obtain ⟨ao, cap, rfl⟩ := owns_any hown
      by_cases hlt : pos < s.size
      · have hnx : ∀ ty, (Instr.next (.pointer (some ⟨w1.heap.size, 0, none⟩)) true ty).run Tryz.prog wr = _ := fun ty => Lib.run_next_any_at wr w1.heap.size s pos ty hit hlt
        have hwd := Lib.decode_width_pos s pos hlt
        have hle := dec_in hlt
        have hit2 := Lib.iterAt_heap wr w1.heap.size s pos (pos + (Utf8.decode s pos).2) hit
        have hbw2 := Lib.below_iterAt hbw (k := w1.heap.size) b1.size s (pos + (Utf8.decode s pos).2)
        have hown2 := ownsRow_iterAt hown (k := w1.heap.size) (by omega) s (pos + (Utf8.decode s pos).2)
        have hsz2 : w1.heap.size < (wr.iterAt w1.heap.size s (pos + (Utf8.decode s pos).2)).heap.size := by rw [Lib.iterAt_size]; exact hsz
        have Hm := hide (show s.size - (pos + (Utf8.decode s pos).2) < s.size - wr.iterPos w1.heap.size by simp only [World.iterPos, hit]; omega)
        have Hdec := hide (Lib.decodeL_drop s pos)
        obtain ⟨r, er⟩ : ∃ r : Int, r = (Utf8.decode s pos).1 := ⟨_, rfl⟩
        obtain ⟨sz, esz⟩ : ∃ sz : Nat, sz = (Utf8.decode s pos).2 := ⟨_, rfl⟩
        have hnx2 : ∀ ty, (Instr.next (.pointer (some ⟨w1.heap.size, 0, none⟩)) true ty).run Tryz.prog wr = .ok (.tuple #[.bool true, .int .i64 pos, .int .i32 r]) (wr.iterAt w1.heap.size s (pos + sz)) := fun ty => by rw [hnx ty, er, esz]
        rw [← esz] at hwd hle hit2 hbw2 hown2 hsz2 Hm
        have hdl : (Lib.decodeL (s.data.toList.drop pos)).2 = sz := by rw [unhide Hdec, esz]
        have hdr : r = ((Lib.decodeL (s.data.toList.drop pos)).1 : Int) := by rw [unhide Hdec, er]
        have Hdl := hide hdl
        have Hdr := hide hdr
        clear hnx er esz Hdec hdl hdr
        generalize hwi : wr.iterAt w1.heap.size s (pos + sz) = wi at *
        have HWI := hide hwi
        clear hwi hit hown hbw hsz
        by_cases hc : pos < next
        · have i2 : (pos : Int) < (next : Int) := by omega
          obtain ⟨q1, q2, q3⟩ := (unhide Hbd).next (by omega)
          rw [unhide Hdl] at q2 q3
          rw [List.drop_drop] at q3
          have Hq := hide q3
          clear q3 q1
          go_wp2
          go_roundw
          case rel =>
            exact ⟨pos + sz, next, acc, hle, hnn, by omega, rfl, hit2, hown2, hbw2, h200, unhide Hokn, by rw [show next - (pos + sz) = next - pos - sz by omega]; exact unhide Hq, unhide Hacc⟩
          case measure =>
            simp only [World.iterPos, hit2]
            exact unhide Hm
        · obtain rfl : pos = next := by omega
          have i2 : ¬ (pos : Int) < (pos : Int) := by omega
          have hsl : ∀ W, (Instr.slice 9 (.string s) (some (.int .i64 (pos : Int))) none none).run Tryz.prog W = .ok (.string (s.extract pos s.size)) W := fun W => by have := run_slice_string_l W 9 s Tryz.underlying9 .i64 (pos : Int) (by omega) (by omega); rwa [Int.toNat_natCast] at this
          have hrl := rest_list s pos
          have hne := drop_ne hlt
          obtain ⟨rest, hrest⟩ : ∃ rest : ByteArray, rest = s.extract pos s.size := ⟨_, rfl⟩
          rw [← hrest] at hsl hrl
          have Hlen : rest.size ≤ 600 := by rw [Lib.size_eq, hrl, List.length_drop, ← Lib.size_eq]; omega
          have G := fun W => gapOf_any rest W r (by rw [hrl]; exact unhide Hdr)
          have T := fun W hW => tokenOf_any rest W hW (by omega) (by have := rd_len rest.data.toList; rw [← Lib.size_eq] at this; omega) r (by rw [hrl]; exact unhide Hdr)
          have hgf := gap_far rest.data.toList (by rw [hrl]; exact hne)
          have htf := tok_far rest.data.toList (by rw [hrl]; exact hne)
          have hdlen : rest.data.toList.length = s.size - pos := by rw [hrl, List.length_drop, ← Lib.size_eq]
          -- a place at which a rune begins is one at which the next token may begin
          have step : ∀ z, z ≤ rest.data.toList.length → 0 < z → ((0 < z → (rest.data.toList.getD (z - 1) 0).toNat < 128) ∨ z = rest.data.toList.length ∨ (rest.data.toList.getD z 0).toNat < 128) →
              okL (s.data.toList.drop (pos + z)) = true ∧ sz ≤ z ∧ Bd (s.data.toList.drop (pos + sz)) (pos + z - (pos + sz)) := by
            intro z h1 h2 h3
            have hb := bd_of _ rest.data.toList z (Nat.le_refl _) h1 h3
            rw [hrl] at hb
            obtain ⟨_, h5, h6⟩ := hb.next h2
            rw [unhide Hdl] at h5 h6
            have h7 := hb.ok (unhide Hokn)
            rw [List.drop_drop] at h6 h7
            exact ⟨h7, h5, by rw [show pos + z - (pos + sz) = z - sz by omega]; exact h6⟩
          have Hstep := hide step
          have Hgf := hide hgf
          have Htf := hide htf
          have Hrl := hide hrl
          have Hne := hide hne
          have Hdlen := hide hdlen
          clear hrest hgf htf hrl hne step hdlen
          obtain ⟨g, hg⟩ : ∃ g : Nat, g = gapL rest.data.toList := ⟨_, rfl⟩
          rw [← hg] at G
          have Hg := hide hg
          clear hg
          by_cases hg0 : 0 < g
          · have i3 : (0 : Int) < (g : Int) := by omega
            have q := unhide Hgf
            rw [← unhide Hg] at q
            obtain ⟨q1, q2, q3⟩ := unhide Hstep g q.1 hg0 q.2
            have hgl : pos + g ≤ s.size := by have := q.1; rw [unhide Hdlen] at this; omega
            have Hq1 := hide q1
            have Hq3 := hide q3
            clear q q1 q3
            go_wp2_with fail
            refine (G _).mono ?_
            rintro e w3 ⟨rfl, b3⟩
            have hit3 := kept_of_below b3 hit2
            have hown3 := owns_below b3 hown2
            have b03 := hbw2.trans (b3.mono hbw2.size)
            go_wp2
            go_roundw
            case rel =>
              refine ⟨pos + sz, pos + g, acc, hle, hgl, by omega, by go_num, hit3, hown3, b03, h200, unhide Hq1, unhide Hq3, ?_⟩
              rw [← unhide Hacc, toksL_gap pos acc (unhide Hne) (by rw [← unhide Hrl, ← unhide Hg]; exact hg0), ← unhide Hrl, ← unhide Hg, unhide Hrl, List.drop_drop]
            case measure =>
              simp only [World.iterPos, hit3]
              exact unhide Hm
          · have i3 : ¬ (0 : Int) < (g : Int) := by omega
            have hgz : gapL (s.data.toList.drop pos) = 0 := by rw [← unhide Hrl, ← unhide Hg]; omega
            have Hgz := hide hgz
            clear hgz
            go_wp2_with fail
            refine (G _).mono ?_
            rintro e w3 ⟨rfl, b3⟩
            have hit3 := kept_of_below b3 hit2
            have hown3 := owns_below b3 hown2
            have b03 := hbw2.trans (b3.mono hbw2.size)
            have T3 := T w3 (hS.below b03)
            obtain ⟨k, y, n, z, er, et, ez, ee, ec⟩ := tk_val (tokL rest.data.toList) pos
            rw [et] at T3
            have Hez := hide ez
            have Hee := hide ee
            have Hec := hide ec
            clear et ez ee ec T G
            go_wp2_with fail
            refine T3.mono ?_
            rintro e w4 ⟨rfl, b4⟩
            have hit4 := kept_of_below b4 hit3
            have hown4 := owns_below b4 hown3
            have b04 := b03.trans (b4.mono b03.size)
            clear hit2 hown2 hit3 hown3 T3
            by_cases he : er = 0
            · subst he
              have he0 : (tokL rest.data.toList).e = 0 := (unhide Hee).symm
              obtain ⟨t1, t2, t3⟩ := unhide Htf he0
              rw [← unhide Hez] at t1 t2 t3
              obtain ⟨q1, q2, q3⟩ := unhide Hstep z t2 (by omega) (.inl fun _ => t3)
              have hgl : pos + z ≤ s.size := by have := t2; rw [unhide Hdlen] at this; omega
              have Hq1 := hide q1
              have Hq3 := hide q3
              have He0 := hide he0
              clear q1 q3 t2 t3 he0
              by_cases hm : acc.length = 200
              · have i4 : ((acc.length : Int) == 200) = true := by simpa using (show (acc.length : Int) = 200 by omega)
                have hres : R = ([], 4) := by rw [← unhide Hacc, toksL_many pos acc (unhide Hne) (unhide Hgz) (by rw [← unhide Hrl]; exact unhide He0) hm]
                have Hres := hide hres
                clear hres
                go_wp2
                exact bodyPost_ret (v := .tuple #[.slice none 0 0, .int .i64 4]) (by simp [results, Tryz.results19, go_sem]) rfl ⟨_, by rw [unhide Hres], by rw [unhide Hres]; exact World.ownsRow_nil _ _ _ _, b04.alloc b04.size _⟩
              · have i4 : ((acc.length : Int) == 200) = false := by simpa using (show ¬ (acc.length : Int) = 200 by omega)
                have b5 : Below w.heap.size w (w4.alloc (.cells #[.int .i64 k, .string y, .int .i64 n, .int .i64 pos] 70)) := b04.alloc b04.size _
                have hown5 := hown4.alloc (.cells #[.int .i64 k, .string y, .int .i64 n, .int .i64 pos] 70)
                have hblk := at4_new w4 k y n pos
                have z5 : (w4.alloc (.cells #[.int .i64 k, .string y, .int .i64 n, .int .i64 pos] 70)).heap.size = w4.heap.size + 1 := by simp
                have hit5 : (w4.alloc (.cells #[.int .i64 k, .string y, .int .i64 n, .int .i64 pos] 70)).heap[w1.heap.size]? = some (.stringIter s (pos + sz)) := kept_of_below (new1 _ _) hit4
                go_upto_region 22 with fail
                generalize w5e : w4.alloc (.cells #[.int .i64 k, .string y, .int .i64 n, .int .i64 pos] 70) = w5 at *
                clear w5e
                have Z5 := hide z5
                clear z5 hit4 hown4
                obtain ⟨a0, a1, a2, a3⟩ := hblk
                simp only [Nat.zero_add] at a1 a2 a3
                go_wp2_with (at_builtin; refine wpList_append_own _ rfl _ _ 55 rfl (w1.heap.size + 1) 70 i0 _ 4 40 Tryz.underlying55 hi hz0 hz1 hz2 rfl (by decide) _ _ _ rfl (hown5.alloc _) ⟨w5.heap.size, 0, none⟩ 1 1 [.int .i64 k, .string y, .int .i64 n, .int .i64 pos] rfl rfl ?c1 ?c2 ?c3 ?c4 ?c5 ?_)
                case c1 =>
                  intro j u hj
                  match j, hj with
                  | 0, hj => simp at hj; subst hj; simp [Addr.add]
                  | 1, hj => simp at hj; subst hj; simp [Addr.add]
                  | 2, hj => simp at hj; subst hj; simp [Addr.add]
                  | 3, hj => simp at hj; subst hj; simp [Addr.add]
                case c2 => intro u hu; simp at hu; rcases hu with rfl | rfl | rfl | rfl <;> rfl
                case c3 => unfold maxLen; omega
                case c4 => omega
                case c5 => have := b5.size; have := (Array.getElem?_eq_some_iff.1 hit5).1; simp; omega
                intro v6 w6 hown6 hgrow _
                have hs5 := (Array.getElem?_eq_some_iff.1 hit5).1
                have b6 : Below w.heap.size w w6 := (b5.alloc b5.size _).grown hgrow (by have := b5.size; simp; omega) (fun j hj => by have := (hown5.alloc (.cells #[.int .i64 k, .string y, .int .i64 n, .int .i64 pos] 70)).lt j hj; omega)
                have hit6 : w6.heap[w1.heap.size]? = some (.stringIter s (pos + sz)) := by
                  rw [hgrow.block w1.heap.size (by simp; omega) (fun e => by have := (hown5.lt w1.heap.size e.symm).1; omega), Lib.alloc_old w5 _ _ hs5]
                  exact hit5
                have Hown6 := hide hown6
                clear hown6 hgrow a0 a1 a2 a3 hown5 hit5
                go_wp2
                go_roundw
                case rel =>
                  refine ⟨pos + sz, pos + z, acc ++ [⟨(tokL rest.data.toList).k, (tokL rest.data.toList).s, (tokL rest.data.toList).n, pos⟩], hle, hgl, by omega, by go_num, hit6, ?_, b6, by simp; omega, unhide Hq1, unhide Hq3, ?_⟩
                  · rw [cellsT_snoc, unhide Hec]
                    simpa using unhide Hown6
                  · rw [← unhide Hacc, toksL_tok pos acc (unhide Hne) (unhide Hgz) (by rw [← unhide Hrl]; exact unhide He0) hm, ← unhide Hrl, ← unhide Hez, unhide Hrl, List.drop_drop]
                case measure =>
                  simp only [World.iterPos, hit6]
                  exact unhide Hm
            · have hx : (er != 0) = true := by simpa using he
              have hres : R = ([], er) := by rw [← unhide Hacc, toksL_err pos acc (unhide Hne) (unhide Hgz) (by rw [← unhide Hrl, ← unhide Hee]; exact he), ← unhide Hrl, ← unhide Hee]
              have Hres := hide hres
              clear hres he
              go_wp2
              exact bodyPost_ret (v := .tuple #[.slice none 0 0, .int .i64 er]) (by simp [results, Tryz.results19, go_sem]) rfl ⟨_, by rw [unhide Hres], by rw [unhide Hres]; exact World.ownsRow_nil _ _ _ _, b04.alloc b04.size _⟩
      · have hnx : ∀ ty, (Instr.next (.pointer (some ⟨w1.heap.size, 0, none⟩)) true ty).run Tryz.prog wr = _ := fun ty => Lib.run_next_end_at wr w1.heap.size s pos ty hit hlt
        obtain rfl : pos = next := by omega
        have hres : R = (acc, 0) := by rw [← unhide Hacc, drop_end hlt, toksL_nil]
        have Hres := hide hres
        clear hres
        go_wp2
        exact bodyPost_ret (v := .tuple #[.slice ao acc.length cap, .int .i64 0]) (by simp [results, Tryz.results19, go_sem]) rfl ⟨_, by rw [unhide Hres], by rw [unhide Hres]; exact owns_base hown (by omega), hbw⟩
end Go.Proofs.YtlakgnnjokienaaGreatDoor
