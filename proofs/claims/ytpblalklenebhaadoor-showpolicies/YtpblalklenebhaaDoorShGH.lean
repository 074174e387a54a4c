/-
  show.each of a node's kids, show.listed, show.Expr of a set.
  show.listed, show.Expr of a set.
-/
import Derived.Test.YtpblalklenebhaaDoorShD
import Derived.Test.YtpblalklenebhaaDoorShJ
namespace Go.Proofs.YtpblalklenebhaaDoor
open Go.RowKit Go.Sort

theorem infoStringS : (Tryd.prog.info? 9).map (fun i => (i.zero, i.size, i.bytes)) = some (some (.string ⟨#[]⟩), 1, 16) := by kernel_rfl
theorem ownS_below {w w' : World} {base : Nat} {e : TypeId} {k : Nat} {v : Value} {n : Nat} {xs : List Value} (h : w.ownsRow base e k v n xs) (hb : Below w.heap.size w w') : w'.ownsRow base e k v n xs := owns_below hb h

def strVs (l : List (List UInt8)) : List Value := l.map fun s => Value.string (ba s)
theorem strRow_own {w : World} {B : Nat} {v : Value} {l : List (List UInt8)} (h : w.ownsRow B 9 1 v l.length (strVs l)) : ∃ ao cap, v = .slice ao l.length cap ∧ l.length ≤ cap ∧ StrRow w ao l := by
  rcases Nat.eq_zero_or_pos l.length with h0 | h0
  · obtain ⟨ao, cap, e⟩ := owns_slice h
    refine ⟨ao, cap, e, by omega, fun j hj => by omega⟩
  · obtain ⟨g, cap, e, _, hg, hn, hcs⟩ := owns_open h h0
    refine ⟨_, cap, e, hn, fun j hj => ⟨g, 0, rfl, hg, ?_⟩⟩
    rw [Nat.zero_add]
    exact hcs j _ (by simp [strVs, List.getElem?_map, List.getElem?_eq_getElem hj])

def textsL (l : List Ex) : List (List UInt8) := l.map showE
theorem textsL_take (l : List Ex) (j : Nat) (h : j < l.length) : strVs (textsL (l.take (j + 1))) = strVs (textsL (l.take j)) ++ [.string (ba (showE l[j]))] := by
  unfold strVs textsL
  rw [List.take_succ_eq_append_getElem h, List.map_append, List.map_append]
  rfl

set_option maxHeartbeats 4000000 in
set_option maxRecDepth 1000000 in
theorem each_any (l : List Ex) (n : Nat) (hn : l.length = n) (ao : Option Addr) (c : Nat) (P : Nat → Prop) (w : World) (hT : Tab6 w) (hks : IsEs w P ao 0 l) (hl : n ≤ 100000) (C : ∀ j (hj : j < l.length), Shows P l[j]) :
    Calls Tryd.prog 27 #[.slice ao n c, .func (.func 11) #[] #[]] w fun e w' => ∃ v, e = .returned v ∧ w'.ownsRow w.heap.size 9 1 v n (strVs (textsL l)) ∧ Below w.heap.size w w' := by
  obtain ⟨i0, hi, hz0, hz1, hz2⟩ := info_parts infoStringS
  have HN := hide hn
  have HK := hide hks
  have HCC := hide C
  have HTT := hide hT
  clear hn hks C hT
  go_enter Tryd.func27, Tryd.ntmps27
  go_wp2
  go_loopw [5, 10] (fun tv iv wr => ∃ j : Nat, j ≤ n ∧ iv = .int .i64 j ∧ Below w.heap.size w wr ∧ wr.ownsRow w.heap.size 9 1 tv j (strVs (textsL (l.take j)))) (fun _ iv _ => n - (intOf iv).toNat)
  case atStart => exact ⟨0, by omega, rfl, Below.refl _ _, World.ownsRow_nil _ _ _ _⟩
  case round =>
    obtain ⟨j, hj, rfl, hbw, hown⟩ := hrel
    by_cases hlt : j < n
    · have i1 : (j : Int) < (n : Int) := by omega
      have hlt' : j < l.length := by rw [unhide HN]; exact hlt
      obtain ⟨rk, g, off, hlo, hg, h7, hxk⟩ := IsEs.get l 0 j hlt' (unhide HK)
      rw [Nat.zero_add] at h7
      have h7 := h7.below hbw hg
      have n3 := newS wr (.cells #[.int .i64 rk.k, .bool rk.b, .int .i64 rk.n, .string rk.s, .string rk.t, .string rk.i, .slice rk.lo rk.ll rk.lc] 32)
      have b3 := hbw.trans (n3.mono hbw.size)
      have C3 := unhide HCC j hlt' rk _ ((unhide HTT).below b3) (IsE.turn b3.size (fun b hb hb2 => ⟨b3.block b hb2, hb⟩) rk _ hxk)
      have Z3 : (wr.alloc (.cells #[.int .i64 rk.k, .bool rk.b, .int .i64 rk.n, .string rk.s, .string rk.t, .string rk.i, .slice rk.lo rk.ll rk.lc] 32)).heap[wr.heap.size]? = some (.cells #[.int .i64 rk.k, .bool rk.b, .int .i64 rk.n, .string rk.s, .string rk.t, .string rk.i, .slice rk.lo rk.ll rk.lc] 32 (0, 0)) := alloc_heap _ _
      have hown3 := hown.alloc (.cells #[.int .i64 rk.k, .bool rk.b, .int .i64 rk.n, .string rk.s, .string rk.t, .string rk.i, .slice rk.lo rk.ll rk.lc] 32)
      have Hs := hide (textsL_take l j hlt')
      generalize showE l[j] = sx at *
      generalize ba sx = X at *
      subst hlo
      unfold R7.val at C3
      obtain ⟨a0, a1, a2, a3, a4, a5, a6⟩ := h7
      clear hown hxk
      go_wp2_with fail
      clear a0 a1 a2 a3 a4 a5 a6
      generalize wr.alloc _ = w3 at *
      refine C3.mono ?_
      rintro e w5 ⟨rfl, b35⟩
      have b5 := b3.trans (b35.mono b3.size)
      have hown5 := ownS_below hown3 b35
      clear hown3 C3 Z3 n3
      go_wp2_with (at_builtin; refine wpList_append_own _ rfl _ _ 45 rfl w.heap.size 9 i0 (.string ⟨#[]⟩) 1 16 Tryd.underlying45 hi hz0 hz1 hz2 rfl (by decide) _ _ _ rfl (hown5.alloc _) ⟨w5.heap.size, 0, none⟩ 1 1 [.string X] rfl rfl ?c1 ?c2 ?c3 ?c4 ?c5 ?_)
      case c1 =>
        intro k u hk
        match k, hk with
        | 0, hk => simp at hk; subst hk; simp [Addr.add]
      case c2 => intro u hu; simp at hu; subst hu; rfl
      case c3 => unfold maxLen; omega
      case c4 => omega
      case c5 => have := b5.size; simp; omega
      intro v' w6 hown' hgrow _
      have b6 : Below w.heap.size w w6 := (b5.alloc b5.size _).grown hgrow (by have := b5.size; simp; omega) (fun k hk => (hown5.lt k hk).1)
      have Hown := hide hown'
      have HG := hide hgrow
      clear hown' hgrow
      go_wp2
      go_roundw
      case rel =>
        refine ⟨j + 1, by omega, by go_num, b6, ?_⟩
        rw [unhide Hs]
        exact unhide Hown
      case measure =>
        simp only [intOf]
        omega
    · obtain rfl : j = n := by omega
      have i1 : ¬ (j : Int) < (j : Int) := by omega
      have hfin : l.take j = l := by rw [← unhide HN]; exact List.take_length
      rw [hfin] at hown
      have HO := hide hown
      clear hown hfin
      go_wp2
      go_ret
      exact ⟨_, rfl, unhide HO, hbw⟩
end Go.Proofs.YtpblalklenebhaaDoor

namespace Go.Proofs.YtpblalklenebhaaDoor
open Go.RowKit Go.Sort

set_option maxHeartbeats 1000000 in
set_option maxRecDepth 1000000 in
theorem listed_any (l : List (List UInt8)) (ao : Option Addr) (c : Nat) (w : World) (hc : l.length ≤ c) (hr : StrRow w ao l) (hlen : (joinS [44, 32] l).length ≤ 100000000000000) :
    Calls Tryd.prog 26 #[.slice ao l.length c] w fun e w' => e = .returned (.string (ba (joinS [44, 32] l))) ∧ Below w.heap.size w w' := by
  have J := join_any l ao c w hc hr hlen
  generalize ba (joinS [44, 32] l) = X at *
  generalize l.length = n at *
  clear hlen
  go_enter Tryd.func26, Tryd.ntmps26
  go_wp2_with fail
  refine J.mono ?_
  rintro e w1 ⟨rfl, b1⟩
  go_wp2
  go_ret
  exact ⟨rfl, b1⟩

set_option maxHeartbeats 4000000 in
set_option maxRecDepth 1000000 in
theorem expr_set (l : List Ex) (r : R7) (P : Nat → Prop) (w : World) (hT : Tab6 w) (hk : r.k = 6) (hll : r.ll = l.length) (hks : IsEs w P r.lo 0 l) (hl : l.length ≤ 100000) (C : ∀ j (hj : j < l.length), Shows P l[j]) (hlen : (joinS [44, 32] (textsL l)).length ≤ 10000000000000) :
    NodeIs r w (⟨#[91]⟩ ++ ba (joinS [44, 32] (textsL l)) ++ ⟨#[93]⟩) := by
  unfold NodeIs
  obtain ⟨k, b, n, s, t, i, lo, ll, lc⟩ := r
  subst hk
  simp only at hll hks
  have n1 := newS w (.cells #[.int .i64 6, .bool b, .int .i64 n, .string s, .string t, .string i, .slice lo ll lc] 32)
  have Z1 : (w.alloc (.cells #[.int .i64 6, .bool b, .int .i64 n, .string s, .string t, .string i, .slice lo ll lc] 32)).heap[w.heap.size]? = some (.cells #[.int .i64 6, .bool b, .int .i64 n, .string s, .string t, .string i, .slice lo ll lc] 32 (0, 0)) := alloc_heap _ _
  have E := each_any l ll hll.symm lo lc P _ (hT.below n1) (IsEs.turn n1.size (fun b hb1 hb2 => ⟨n1.block b hb2, hb1⟩) lo 0 l hks) (by omega) C
  have htl : (textsL l).length = ll := by rw [hll]; simp [textsL]
  have hbs := ba_size (joinS [44, 32] (textsL l))
  have g1 : ¬ 9223372036854775807 < 1 + (ba (joinS [44, 32] (textsL l))).size := by omega
  have g2 : ¬ 9223372036854775807 < 1 + (ba (joinS [44, 32] (textsL l))).size + 1 := by omega
  have HL := hide (listed_any (textsL l))
  obtain ⟨X, hX⟩ : ∃ X, X = ba (joinS [44, 32] (textsL l)) := ⟨_, rfl⟩
  rw [← hX] at g1 g2 ⊢
  have HX := hide hX
  have HTL := hide htl
  have HLE := hide (show (joinS [44, 32] (textsL l)).length ≤ 100000000000000 by omega)
  clear hT hks C hlen hbs htl hll hl hX
  unfold R7.val
  simp only
  go_enter Tryd.func11, Tryd.ntmps11
  go_upto_region 1 with fail
  generalize w.alloc _ = w1 at *
  obtain ⟨x0, x1, x2, x3, x4, x5, x6, _⟩ := blk7 Z1
  go_wp2_with fail
  refine E.mono ?_
  rintro e w2 ⟨v, rfl, hown, b2⟩
  clear x0 x1 x2 x3 x4 x5 x6 E
  rw [← unhide HTL] at hown
  obtain ⟨ao, cap, rfl, hcap, hrow⟩ := strRow_own hown
  have L := unhide HL ao cap w2 hcap hrow (unhide HLE)
  rw [unhide HTL] at L ⊢
  rw [← unhide HX] at L
  clear hown hcap hrow
  go_wp2_with fail
  refine L.mono ?_
  rintro e w3 ⟨rfl, b3⟩
  have b02 := n1.trans (b2.mono n1.size)
  go_wp2
  go_ret
  exact ⟨rfl, b02.trans (b3.mono b02.size)⟩
end Go.Proofs.YtpblalklenebhaaDoor
