/-
  pack.Msg of a message such as may be: no error.
-/
import Derived.Test.YtkeljejddfpnmaaDoorPkO
namespace Go.Proofs.YtkeljejddfpnmaaDoor
open Go.RowKit Go.Sort

structure MS (w : World) (m : M14) (rb g N : Nat) (wr : World) : Prop where
  below : Below w.heap.size w wr
  z : wr.heap[w.heap.size]? = some m.obj
  w : WrW wr rb g N
theorem MS.keep {w wr wr' : World} {m : M14} {rb g N : Nat} (h : MS w m rb g N wr) (hrb : w.heap.size < rb) (hg : w.heap.size < g) (k : Keep2 rb g wr wr') (h' : WrW wr' rb g N) : MS w m rb g N wr' :=
  ⟨k.below h.below (by omega) (by omega) h.below.size, (k.block _ (Array.getElem?_eq_some_iff.1 h.z).1 (by omega) (by omega)).trans h.z, h'⟩

set_option maxHeartbeats 16000000 in
set_option maxRecDepth 1000000 in
theorem msg_ok (m : M14) (es : List (List UInt8)) (d : List UInt8) (w : World) (h : MRows w m es d) (he : errM m es = 0) :
    Calls Tryd.prog 18 #[m.val] w fun e w' => ∃ v, e = .returned (.tuple #[v, .int .i64 0]) ∧ Below w.heap.size w w' := by
  obtain ⟨htn, hkn, h64, h7, hlong, hd⟩ := errM_zero he
  have hesl : es.length ≤ 64 := by rw [← h.rn]; exact h64
  have n1 := new1 w m.obj
  have z1 := alloc_heap w m.obj
  have C := checkMsg_any m es d _ (h.below n1) (by omega)
  have S := fun w' hb' => msgSize_any m es d w' (h.below hb') he
  rw [he] at C
  have HH := hide h
  have HTN := hide htn
  have HKN := hide hkn
  have hdl : d.length ≤ 60000 := by rw [← h.dn]; exact hd
  clear h he htn hkn
  have HW := fun w' rb g N h' ht => headW m w' rb g N h' ht
  unfold M14.val M14.cells at C S HW ⊢
  go_enter Tryd.func18, Tryd.ntmps18
  go_upto_region 1 with fail
  have ew : w.alloc (.cells m.cells 45) = w.alloc m.obj := rfl
  unfold M14.cells at ew
  rw [ew]
  clear ew
  generalize w.alloc m.obj = w1 at *
  obtain ⟨c0, c1, c2, c3, c4, c5, c6, c7, c8, c9, c10, c11, c12, c13, _⟩ := blk14 z1
  go_wp2_with fail
  refine C.mono ?_
  rintro e w2 ⟨rfl, b12⟩
  have b2 := n1.trans (b12.mono n1.size)
  have z2 := kept_of_below b12 z1
  clear c0 c1 c2 c3 c4 c5 c6 c7 c8 c9 c10 c11 c12 c13 C
  obtain ⟨c0, c1, c2, c3, c4, c5, c6, c7, c8, c9, c10, c11, c12, c13, _⟩ := blk14 z2
  go_wp2_with fail
  refine (S w2 b2).mono ?_
  rintro e w3 ⟨N, rfl, hN, b23⟩
  have b3 := b2.trans (b23.mono b2.size)
  have z3 := kept_of_below b23 z2
  obtain ⟨rest, hr, hmk⟩ := make_bytes N (N : Int) rfl (by omega)
  have b34 := below2 w3 (.cells rest.toArray 5) (.cells #[.slice (some ⟨w3.heap.size, 0, none⟩) N N] 51)
  have lw : w.heap.size < w3.heap.size := (Array.getElem?_eq_some_iff.1 z3).1
  have s4 : MS w m (w3.heap.size + 1) w3.heap.size N ((w3.alloc (.cells rest.toArray 5)).alloc (.cells #[.slice (some ⟨w3.heap.size, 0, none⟩) N N] 51)) :=
    ⟨b3.trans (b34.mono b3.size), kept_of_below b34 z3, WrW.new w3 rest N hr⟩
  clear c0 c1 c2 c3 c4 c5 c6 c7 c8 c9 c10 c11 c12 c13 S
  go_upto_region 6 with fail
  generalize (w3.alloc _).alloc _ = w4 at *
  generalize hrb : w3.heap.size + 1 = rb at *
  generalize hgg : w3.heap.size = g at *
  have lrb : w.heap.size < rb := by omega
  clear hrb hgg b34 b3 b23 z3 b12 hr hmk
  have HW4 := HW w4 rb g N s4.w (by omega)
  obtain ⟨c0, c1, c2, c3, c4, c5, c6, c7, c8, c9, c10, c11, c12, c13, _⟩ := blk14 s4.z
  go_wp2_with fail
  refine Calls.mono HW4 ?_
  rintro e w5 ⟨rfl, k5, h5⟩
  have s5 := s4.keep lrb lw k5 h5
  clear c0 c1 c2 c3 c4 c5 c6 c7 c8 c9 c10 c11 c12 c13 HW4 HW s4
  obtain ⟨-, -, -, -, -, -, -, -, -, -, -, c11, -, -, _⟩ := blk14 s5.z
  go_wp2_with fail
  refine Calls.mono (numW 1 (by decide) (m.en : Int) w5 rb g N s5.w (by omega)) ?_
  rintro e w6 ⟨rfl, k6, h6⟩
  have s6 := s5.keep lrb lw k6 h6
  clear c11
  obtain ⟨-, -, -, -, -, -, -, -, -, -, -, c11, -, -, _⟩ := blk14 s6.z
  go_wp2_with fail
  clear c11
  go_loopw [30] (fun iv wr => ∃ k : Nat, k ≤ m.en ∧ iv = .int .i64 k ∧ MS w m rb g N wr) (fun iv _ => m.en - (intOf iv).toNat)
  case atStart => exact ⟨0, Nat.zero_le _, rfl, s6⟩
  case round =>
    obtain ⟨k, hk, rfl, sr⟩ := hrel
    by_cases hlt : k < m.en
    · have i1 : (k : Int) < (m.en : Int) := by omega
      obtain ⟨ge, oe, ae, ce, heO, hge, hce, hre⟩ := (unhide HH).re k (by rw [← (unhide HH).rn]; exact hlt)
      obtain ⟨gt, ot, xt, htO, hgt, hct⟩ := (unhide HH).rt k (by rw [unhide HTN]; exact hlt)
      obtain ⟨gk, ok, xk, hkO, hgk, hck⟩ := (unhide HH).rk k (by rw [unhide HKN]; exact hlt)
      have hl7 := hasLong_get hlong k (by rw [← (unhide HH).rn]; exact hlt)
      have hkes : k < es.length := by rw [← (unhide HH).rn]; exact hlt
      generalize es[k] = ek at *
      have it : (k : Int) < (m.tn : Int) := by rw [unhide HTN]; exact i1
      have ik : (k : Int) < (m.kn : Int) := by rw [unhide HKN]; exact i1
      have xe := (sr.below.cell (p := ⟨ge, oe + k, none⟩) hge).trans hce
      rw [heO]
      clear heO
      obtain ⟨-, -, -, -, -, -, -, -, -, c9, -, -, -, -, _⟩ := blk14 sr.z
      rw [htO] at c9
      have HKO := hide hkO
      clear htO hkO
      have xt' := (sr.below.cell (p := ⟨gt, ot + k, none⟩) hgt).trans hct
      go_wp2_with fail
      refine Calls.mono (numW 8 (by decide) xt wr rb g N sr.w (by omega)) ?_
      rintro e w7 ⟨rfl, k7, h7⟩
      have s7 := sr.keep lrb lw k7 h7
      clear c9 xt' xe
      obtain ⟨-, -, -, -, -, -, -, -, -, -, c10, -, -, -, _⟩ := blk14 s7.z
      rw [unhide HKO] at c10
      have xk' := (s7.below.cell (p := ⟨gk, ok + k, none⟩) hgk).trans hck
      go_wp2_with fail
      refine Calls.mono (numW 8 (by decide) xk w7 rb g N s7.w (by omega)) ?_
      rintro e w8 ⟨rfl, k8, h8⟩
      have s8 := s7.keep lrb lw k8 h8
      clear c10 xk'
      go_wp2_with fail
      refine Calls.mono (bytesW ek ae ce ek.length rfl w w8 rb g N s8.w s8.below hre (by omega) (by omega) (by omega) (by omega)) ?_
      rintro e w9 ⟨rfl, k9, h9⟩
      have s9 := s8.keep lrb lw k9 h9
      go_wp2_with fail
      go_roundw
      case rel => exact ⟨k + 1, by omega, by go_num, s9⟩
      case measure => simp only [intOf]; omega
    · have i1 : ¬ (k : Int) < (m.en : Int) := by omega
      obtain ⟨-, -, -, -, -, -, -, -, -, -, -, -, c12, -, _⟩ := blk14 sr.z
      go_wp2_with fail
      refine Calls.mono (numW 1 (by decide) (m.mn : Int) wr rb g N sr.w (by omega)) ?_
      rintro e w7 ⟨rfl, k7, h7⟩
      have s7 := sr.keep lrb lw k7 h7
      clear c12
      obtain ⟨-, -, -, -, -, -, -, -, -, -, -, -, c12, -, _⟩ := blk14 s7.z
      go_wp2_with fail
      clear c12
      go_loopw [57] (fun iv wr => ∃ k : Nat, k ≤ m.mn ∧ iv = .int .i64 k ∧ MS w m rb g N wr) (fun iv _ => m.mn - (intOf iv).toNat)
      case atStart => exact ⟨0, Nat.zero_le _, rfl, s7⟩
      case round =>
        obtain ⟨j, hj, rfl, sj⟩ := hrel
        by_cases hjl : j < m.mn
        · have j1 : (j : Int) < (m.mn : Int) := by omega
          obtain ⟨gm, om, xm, hmO, hgm, hcm⟩ := (unhide HH).rm j hjl
          rw [hmO]
          clear hmO
          have xm' := (sj.below.cell (p := ⟨gm, om + j, none⟩) hgm).trans hcm
          go_wp2_with fail
          refine Calls.mono (numW 8 (by decide) xm _ rb g N sj.w (by omega)) ?_
          rintro e w8 ⟨rfl, k8, h8⟩
          have s8 := sj.keep lrb lw k8 h8
          go_wp2_with fail
          go_roundw
          case rel => exact ⟨j + 1, by omega, by go_num, s8⟩
          case measure => simp only [intOf]; omega
        · have j1 : ¬ (j : Int) < (m.mn : Int) := by omega
          obtain ⟨-, -, -, -, -, -, -, -, -, -, -, -, -, c13, _⟩ := blk14 sj.z
          go_wp2_with fail
          refine Calls.mono (bytesW d m.dO m.dc m.dn (unhide HH).dn w _ rb g N sj.w sj.below (unhide HH).rd (by omega) (by omega) (by omega) (by omega)) ?_
          rintro e w8 ⟨rfl, k8, h8⟩
          have s8 := sj.keep lrb lw k8 h8
          clear c13
          go_wp2
          go_ret2
          exact ⟨_, rfl, s8.below⟩
end Go.Proofs.YtkeljejddfpnmaaDoor
