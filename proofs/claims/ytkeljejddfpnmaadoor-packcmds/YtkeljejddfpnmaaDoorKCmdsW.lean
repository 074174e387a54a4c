/-
  chancellaw7.PackCmds: the walk.
-/
import Derived.Test.YtkeljejddfpnmaaDoorPlqA
namespace Go.Proofs.YtkeljejddfpnmaaDoor
open Go.RowKit Go.Sort

/-- One byte of a row set. -/
theorem brow_set {w : World} {g n cap : Nat} {cur : Array Value} {F : List UInt8} (hg : w.heap[g]? = some (.cells cur 5 (0, 0))) (hn : n = F.length) (ht : cur.toList.take n = u8s F) (k : Nat) (b : UInt8) (hk : k < n) (_hc : n ≤ cap) :
    BRow (w.setCell ⟨g, k, none⟩ (.int .u8 (b.toNat : Int))) (some ⟨g, 0, none⟩) (F.set k b) := by
  have hh : (w.setCell ⟨g, k, none⟩ (.int .u8 (b.toNat : Int))).heap[g]? = some (.cells (cur.setIfInBounds k (.int .u8 (b.toNat : Int))) 5 (0, 0)) := by simp [World.setCell, Array.getElem?_modify, hg]
  have hcl : n ≤ cur.toList.length := by
    have := congrArg List.length ht
    rw [List.length_take, u8s_len, ← hn] at this
    omega
  refine .inr ⟨g, 0, rfl, (Array.getElem?_eq_some_iff.1 hh).1, fun j hj => ?_⟩
  rw [List.length_set] at hj
  rw [Lib.cell_of_heap hh, Nat.zero_add]
  by_cases hjk : k = j
  · subst hjk
    rw [List.getElem_set_self]
    have : k < cur.size := by rw [← Array.length_toList]; omega
    simp [this]
  · rw [List.getElem_set_ne hjk]
    have h1 := u8s_get hj
    rw [← ht, List.getElem?_take, if_pos (by omega)] at h1
    simpa [Array.getElem?_setIfInBounds_ne hjk] using h1

structure RowOk (w : World) (v : Value) (F : List UInt8) : Prop where
  ok : ∃ ao cap, v = .slice ao F.length cap ∧ F.length ≤ cap ∧ Shape ao cap ∧ BRow w ao F ∧ F.length ≤ 3000
theorem RowOk.below {w w' : World} {v : Value} {F : List UInt8} (h : RowOk w v F) (hb : Below w.heap.size w w') : RowOk w' v F := by
  obtain ⟨ao, cap, h1, h2, h3, h4, h5⟩ := h.ok
  exact ⟨ao, cap, h1, h2, h3, h4.below hb, h5⟩
theorem rows_get {w : World} {g : Nat} {v0 v1 v2 : Value} {F0 F1 F2 : List UInt8} (hg : w.heap[g]? = some (.cells #[v0, v1, v2] 24 (0, 0))) (h0 : RowOk w v0 F0) (h1 : RowOk w v1 F1) (h2 : RowOk w v2 F2) (k : Nat) (hk : k < 3) : ∃ v F, w.cell? ⟨g, k, none⟩ = some v ∧ RowOk w v F := by
  match k, hk with
  | 0, _ => exact ⟨v0, F0, by rw [Lib.cell_of_heap hg]; rfl, h0⟩
  | 1, _ => exact ⟨v1, F1, by rw [Lib.cell_of_heap hg]; rfl, h1⟩
  | 2, _ => exact ⟨v2, F2, by rw [Lib.cell_of_heap hg]; rfl, h2⟩
theorem BRow.take {w : World} {ao : Option Addr} {l : List UInt8} (h : BRow w ao l) (k : Nat) : BRow w ao (l.take k) := by
  rcases h with rfl | ⟨g, off, rfl, hg, h⟩
  · exact .inl (by simp)
  · refine .inr ⟨g, off, rfl, hg, fun j hj => ?_⟩
    rw [List.getElem_take]
    exact h j (by rw [List.length_take] at hj; omega)
theorem u8_add (a b : UInt8) : IntKind.u8.wrap ((a.toNat : Int) + (b.toNat : Int)) = ((a + b).toNat : Int) := by
  rw [IntKind.wrap_u8', UInt8.toNat_add]
  omega
theorem own_empty (w : World) : Own (w.alloc (.cells #[] 5)) w.heap.size (.slice (some ⟨w.heap.size, 0, none⟩) 0 0) [] := own_new w [] (by simp)

set_option maxHeartbeats 16000000 in
set_option maxRecDepth 1000000 in
theorem cmds_walk (c : C5) (at_ : Int) (bt : UInt8) (cut : Int) (raw : List UInt8) (ao4 : Option Addr) (cap4 : Nat) (w : World) (hT : Half w) (hsq : c.sq ≤ 9223372036854775807) (hl4 : raw.length ≤ 9223372036854775807) (hc4 : raw.length ≤ cap4) (hs4 : Shape ao4 cap4) (hr4 : BRow w ao4 raw) :
    Calls Tryd.prog 3 #[c.val, .int .i64 at_, .int .u8 (bt.toNat : Int), .int .i64 cut, .slice ao4 raw.length cap4] w fun e w' => e = .returned (.bool true) ∧ Below w.heap.size w w' := by
  have n1 := new1 w c.obj
  have z1 := alloc_heap w c.obj
  have K0 := known7_any _ (hT.below n1)
  obtain ⟨bi, hbi⟩ : ∃ bi : Int, bi = (bt.toNat : Int) := ⟨_, rfl⟩
  rw [← hbi]
  have HBI := hide hbi
  obtain ⟨rl, hrl⟩ : ∃ rl, rl = raw.length := ⟨_, rfl⟩
  rw [← hrl]
  have HRL := hide hrl
  have CP := fun w' => cmd_bad c w'
  have CO := fun w' => cmd_ok c w'
  have RP := fun w' => rCmd_bad c w'
  have RO := fun w' => rCmd_ok c w'
  by_cases hbig : 300 < c.nm.size ∨ 1000 < c.tx.size ∨ 500 < rl
  · clear CP CO RP RO
    unfold C5.val
    unfold C5.obj at K0 n1
    clear hbi hrl
    go_enter Tryd.func3, Tryd.ntmps3
    go_wp2_with fail
    refine Calls.mono K0 ?_
    rintro e w2 ⟨rfl, b2⟩
    unfold C5.obj at z1
    have z2 := kept_of_below b2 z1
    have bb2 := n1.trans (b2.mono n1.size)
    generalize w.alloc _ = w1 at *
    obtain ⟨c0, c1, c2, c3, c4, _⟩ := blk5 z2
    by_cases h1 : 300 < c.nm.size
    · have i1 : (300 : Int) < (c.nm.size : Int) := by omega
      go_wp2
      go_ret
      exact ⟨rfl, bb2⟩
    · have i1 : ¬ (300 : Int) < (c.nm.size : Int) := by omega
      by_cases h2 : 1000 < c.tx.size
      · have i2 : (1000 : Int) < (c.tx.size : Int) := by omega
        go_wp2
        go_ret
        exact ⟨rfl, bb2⟩
      · have i2 : ¬ (1000 : Int) < (c.tx.size : Int) := by omega
        have i3 : (500 : Int) < (rl : Int) := by omega
        go_wp2
        go_ret
        exact ⟨rfl, bb2⟩
  · have i1 : ¬ (300 : Int) < (c.nm.size : Int) := by omega
    have i2 : ¬ (1000 : Int) < (c.tx.size : Int) := by omega
    have i3 : ¬ (500 : Int) < (rl : Int) := by omega
    have hr5 : raw.length ≤ 500 := by omega
    clear hbig hrl hbi hl4
    by_cases hE : errC c = 0
    · have CO := fun w' => CO w' hE
      have RO := fun w' => RO w' hE
      have PC := fun ao' cap' w' h1 h2 => parseCmd_any (cmdB c) ao' cap' w' h1 h2
      rw [pcmd_cmdB c hE hsq] at PC
      simp only [] at PC
      have hlB : (cmdB c).length = 14 + c.nm.size + c.tx.size := cmdB_len c
      obtain ⟨_, _, hn12, ht600⟩ := errC_zero hE
      clear CP RP hE
      unfold C5.val at CO RO PC ⊢
      unfold C5.obj at K0 n1 z1
      obtain ⟨F, hF⟩ : ∃ F, F = cmdB c := ⟨_, rfl⟩
      rw [← hF] at CO RO PC hlB
      clear hF
      obtain ⟨L, hL⟩ : ∃ L, L = F.length := ⟨_, rfl⟩
      have HL := hide hL
      have hL1 : 14 ≤ L ∧ L ≤ 626 := by omega
      simp only [← hL] at CO PC
      clear hL hlB
      go_enter Tryd.func3, Tryd.ntmps3
      go_wp2_with fail
      refine Calls.mono K0 ?_
      rintro e w2 ⟨rfl, b2⟩
      have z2 := kept_of_below b2 z1
      have bb2 := n1.trans (b2.mono n1.size)
      clear K0
      generalize w.alloc _ = w1 at *
      obtain ⟨c0, c1, c2, c3, c4, _⟩ := blk5 z2
      go_wp2_with fail
      refine Calls.mono (CO w2) ?_
      rintro e w3 ⟨g3, rfl, hg3, b3, y3⟩
      have bb3 := bb2.trans (b3.mono bb2.size)
      have z3 := kept_of_below b3 z2
      clear c0 c1 c2 c3 c4 CO
      obtain ⟨c0, c1, c2, c3, c4, _⟩ := blk5 z3
      go_wp2_with fail
      refine Calls.mono (RO w3) ?_
      rintro e w4 ⟨v4, rfl, b4, o4⟩
      have bb4 := bb3.trans (b4.mono bb3.size)
      have z4 := kept_of_below b4 z3
      have y4 := kept_of_below b4 y3
      have lg3 : g3 < w3.heap.size := (Array.getElem?_eq_some_iff.1 y3).1
      clear c0 c1 c2 c3 c4 RO
      obtain ⟨g, cap, cur, hv4, hbg, hgc, hnc, hcm, hcs, htk⟩ : ∃ g cap cur, v4 = .slice (some ⟨g, 0, none⟩) F.length cap ∧ w3.heap.size ≤ g ∧ w4.heap[g]? = some (.cells cur 5 (0, 0)) ∧ F.length ≤ cap ∧ cap ≤ maxLen ∧ cur.size = cap * 1 ∧ cur.toList.take (F.length * 1) = u8s F := by
        rcases o4.2 with ⟨_, h0⟩ | h
        · have := unhide HL; omega
        · exact h
      rw [← unhide HL] at hv4
      subst hv4
      have CV1 := conv_run (l := F) (n := L) L (unhide HL) (row_of_block y4)
      have rb4 : BRow w4 (some ⟨g, 0, none⟩) F := by
        obtain ⟨ao5, cap5, e5, _, _, h5, _⟩ := o4.open
        cases e5
        exact h5
      have CV2 := conv_run (l := F) (n := L) cap (unhide HL) rb4
      obtain ⟨S, hS⟩ : ∃ S : ByteArray, S = ⟨F.toArray⟩ := ⟨_, rfl⟩
      rw [← hS] at CV1 CV2
      clear hS
      have PC4 := PC (some ⟨g3, 0, none⟩) L w4 (row_of_block y4) (Nat.le_refl _)
      have Y := hide y4
      have Z := hide z4
      have HGC := hide hgc
      have HTK := hide htk
      clear PC y3 y4 o4 rb4 hgc htk hcs hcm z2 z3
      go_wp2_with fail
      refine Calls.mono PC4 ?_
      rintro e w5 ⟨rfl, b5⟩
      clear PC4 CV1 CV2
      have bb5 := bb4.trans (b5.mono bb4.size)
      have n6 := new1 w5 c.obj
      have zx6 := alloc_heap w5 c.obj
      have z6 := kept_of_below n6 (kept_of_below b5 (unhide Z))
      have gc6 := kept_of_below n6 (kept_of_below b5 (unhide HGC))
      have bb6 := bb5.trans (n6.mono bb5.size)
      unfold C5.obj at n6 zx6 z6 gc6 bb6
      have HGC6 := hide gc6
      clear gc6
      go_upto_region 11 with fail
      generalize w5.alloc _ = w6 at *
      obtain ⟨c0, c1, c2, c3, c4, _⟩ := blk5 z6
      obtain ⟨x0, x1, x2, x3, x4, _⟩ := blk5 zx6
      have NI : ∃ N : Int, N = (L : Int) := ⟨_, rfl⟩
      obtain ⟨N, hN⟩ := NI
      have W := fun w' => within7_any at_ N (by omega) (by omega) w'
      have h1 := Int.emod_nonneg at_ (show N ≠ 0 by omega)
      have h2 := Int.emod_lt_of_pos at_ (show 0 < N by omega)
      obtain ⟨k, hk⟩ : ∃ k : Nat, at_ % N = (k : Int) := ⟨(at_ % N).toNat, by omega⟩
      rw [hk] at W
      have hkL : k < L := by omega
      have hkF : k < F.length := by rw [← unhide HL]; exact hkL
      have i5 : (k : Int) < (L : Int) := by omega
      have gc6 := unhide HGC6
      have ck : w6.cell? ⟨g, k, none⟩ = some (.int .u8 (F[k].toNat : Int)) := by
        rw [Lib.cell_of_heap gc6]
        have := u8s_get hkF
        rw [← unhide HTK, List.getElem?_take, if_pos (by omega)] at this
        simpa using this
      have fz : w6.frozen? ⟨g, k, none⟩ = false := by rw [Lib.frozen_of_heap gc6]
      have hadd := u8_add F[k] bt
      have rb7 := brow_set (n := L) (cap := cap) gc6 (unhide HL) (by have := unhide HTK; rw [Nat.mul_one, ← unhide HL] at this; exact this) k (F[k] + bt) hkL (by rw [unhide HL]; exact hnc)
      have b7 := bb6.setCell (p := ⟨g, k, none⟩) (show w.heap.size ≤ g by have := bb3.size; omega) (.int .u8 ((F[k] + bt).toNat : Int))
      rw [← unhide HBI] at hadd
      have hlF : (F.set k (F[k] + bt)).length = L := by rw [List.length_set, unhide HL]
      generalize F.set k (F[k] + bt) = F2 at *
      generalize ((F[k] + bt).toNat : Int) = yi at *
      generalize (F[k].toNat : Int) = fi at *
      rw [hN] at W
      have hLc : L ≤ cap := by rw [unhide HL]; exact hnc
      have HLF := hide hlF
      clear h1 h2 hk hN gc6 hlF hkF hnc zx6 z6 hg3 lg3 hbg HTK HGC6 HGC Y Z
      go_wp2_with fail
      refine (W _).mono ?_
      rintro e w6' ⟨rfl, rfl⟩
      go_upto_region 14 with fail
      clear c0 c1 c2 c3 c4 x0 x1 x2 x3 x4 ck fz hadd
      generalize World.setCell _ _ _ = w7 at *
      by_cases hodd : cut.tmod 2 = 1
      · obtain ⟨qv, hqv⟩ : ∃ q : Int, IntKind.i64.wrap (cut.tdiv 2) = q := ⟨_, rfl⟩
        obtain ⟨N1, hN1⟩ : ∃ N : Int, N = (L : Int) + 1 := ⟨_, rfl⟩
        have W1 := fun w' => within7_any qv N1 (by omega) (by omega) w'
        have h1 := Int.emod_nonneg qv (show N1 ≠ 0 by omega)
        have h2 := Int.emod_lt_of_pos qv (show 0 < N1 by omega)
        obtain ⟨m, hm⟩ : ∃ m : Nat, qv % N1 = (m : Int) := ⟨(qv % N1).toNat, by omega⟩
        rw [hm] at W1
        have hmL : m ≤ L := by omega
        have CUT := run_cut_h (some ⟨g, 0, none⟩) L cap m (by omega)
        have rb8 := rb7.take m
        have hl8 : m = (F2.take m).length := by rw [List.length_take, unhide HLF]; omega
        rw [hN1] at W1
        have HL8 := hide hl8
        have hl82 : (F2.take m).length ≤ 626 := by rw [← hl8]; omega
        have hl83 : (F2.take m).length ≤ cap := by rw [← hl8]; omega
        generalize F2.take m = F3 at *
        clear h1 h2 hm hN1 rb7 hl8
        go_wp2_with fail
        refine (W1 _).mono ?_
        rintro e w7' ⟨rfl, rfl⟩
        have nE := new1 w7' (.cells #[] 5)
        have HOE := hide (own_empty w7')
        have HRE := hide ((rb8).below nE)
        have hr4X := hr4.below b7
        have hlenA : ([] : List UInt8).length + (F3).length ≤ 140737488355328 := by rw [List.length_nil]; omega
        have hlenB : (F3).length + raw.length ≤ 140737488355328 := by omega
        go_wp2_with (at_builtin; refine wpList_app rfl _ _ rfl rfl rfl (A := []) (C := F3) (unhide HOE) (unhide HL8) (.inr ⟨_, rfl⟩) (unhide HRE) hlenA nE.size ?_)
        intro va wa oa ga
        have ba : Below w7'.heap.size w7' wa := nE.grown ga nE.size (fun k hk => ((unhide HOE).lt k hk).1)
        have HOA := hide oa
        have HRA := hide (hr4X.below ba)
        clear oa ga
        go_wp2_with (at_builtin; refine wpList_app rfl _ _ rfl rfl rfl (A := F3) (C := raw) (unhide HOA) (unhide HRL) hs4 (unhide HRA) hlenB ba.size ?_)
        intro vc wc oc gc
        have bc : Below w7'.heap.size w7' wc := ba.grown gc ba.size (fun k hk => ((unhide HOA).lt k hk).1)
        obtain ⟨ao2, cap2, hvc0, hcc, hsc, hrc, _⟩ := oc.open
        have hvc : vc = .slice ao2 (F3 ++ raw).length cap2 := hvc0
        clear hvc0
        obtain ⟨L2, hL2⟩ : ∃ L2, L2 = (F3 ++ raw).length := ⟨_, rfl⟩
        rw [← hL2] at hvc
        subst hvc
        have nR := new1 wc (.cells #[.slice (some ⟨g, 0, none⟩) m cap, .slice ao2 L2 cap2, .slice ao4 rl cap4] 24)
        have zR := alloc_heap wc (.cells #[.slice (some ⟨g, 0, none⟩) m cap, .slice ao2 L2 cap2, .slice ao4 rl cap4] 24)
        have R0 : RowOk (wc.alloc (.cells #[.slice (some ⟨g, 0, none⟩) m cap, .slice ao2 L2 cap2, .slice ao4 rl cap4] 24)) (.slice (some ⟨g, 0, none⟩) m cap) (F3) := ⟨(some ⟨g, 0, none⟩), cap, (by rw [show m = (F3).length from (unhide HL8)]), hl83, (.inr ⟨_, rfl⟩), ((rb8).below bc).below nR, by omega⟩
        have R1 : RowOk (wc.alloc (.cells #[.slice (some ⟨g, 0, none⟩) m cap, .slice ao2 L2 cap2, .slice ao4 rl cap4] 24)) (.slice ao2 L2 cap2) (F3 ++ raw) := ⟨ao2, cap2, by rw [hL2], hcc, hsc, hrc.below nR, by rw [List.length_append]; omega⟩
        have R2 : RowOk (wc.alloc (.cells #[.slice (some ⟨g, 0, none⟩) m cap, .slice ao2 L2 cap2, .slice ao4 rl cap4] 24)) (.slice ao4 rl cap4) raw := ⟨ao4, cap4, (by rw [unhide HRL]), hc4, hs4, (hr4X.below bc).below nR, by omega⟩
        have bR := b7.trans ((bc.trans (nR.mono bc.size)).mono b7.size)
        clear oc gc hL2 hcc hsc hrc hr4X hlenA hlenB HOE HRE HOA HRA nE ba
        go_upto_region 17 with fail
        generalize wc.alloc _ = wR at *
        generalize wc.heap.size = gr at *
        have lgR : gr < wR.heap.size := (Array.getElem?_eq_some_iff.1 zR).1
        have RG := fun k hk => rows_get zR R0 R1 R2 k hk
        have HRG := hide RG
        clear RG R0 R1 R2 zR nR bc
        go_wp2_with fail
        go_loopw [18] (fun iv wr => ∃ k : Nat, k ≤ 3 ∧ iv = .int .i64 k ∧ Below wR.heap.size wR wr) (fun iv _ => 3 - (intOf iv).toNat)
        case atStart => exact ⟨0, Nat.zero_le _, rfl, Below.refl _ wR⟩
        case round =>
          obtain ⟨k, hk, rfl, br⟩ := hrel
          by_cases hlt : k < 3
          · have i9 : (k : Int) < 3 := by omega
            obtain ⟨vk, Fk, hck, hok⟩ := unhide HRG k hlt
            obtain ⟨aok, capk, rfl, hlk, hsk, hbk, h3k⟩ := hok.ok
            have lgr : gr < wr.heap.size := Nat.lt_of_lt_of_le lgR br.size
            have ck := (br.cell (p := ⟨gr, k, none⟩) lgR).trans hck
            have bkr := hbk.below br
            obtain ⟨nk, hnk⟩ : ∃ nk, nk = Fk.length := ⟨_, rfl⟩
            rw [← hnk] at ck
            have HNK := hide hnk
            have nE := new1 wr (.cells #[] 5)
            have ckE := (nE.cell (p := ⟨gr, k, none⟩) lgr).trans ck
            have HOE := hide (own_empty wr)
            have HRE := hide (bkr.below nE)
            have hlenA : ([] : List UInt8).length + Fk.length ≤ 140737488355328 := by simp; omega
            clear hok hck hnk
            go_wp2_with (at_builtin; refine wpList_app rfl _ _ rfl rfl rfl (A := []) (C := Fk) (unhide HOE) (unhide HNK) hsk (unhide HRE) hlenA nE.size ?_)
            intro va wa oa ga
            have ba : Below wr.heap.size wr wa := nE.grown ga nE.size (fun k hk => ((unhide HOE).lt k hk).1)
            obtain ⟨ao5, cap5, hva0, hca, _, hra, _⟩ := oa.open
            have hva : va = .slice ao5 Fk.length cap5 := hva0
            clear hva0
            have PC := parseCmd_any Fk ao5 cap5 wa hra hca
            rw [← unhide HNK] at hva PC
            subst hva
            have RC := fun w' h' => rparseCmd_any Fk aok capk w' h' hlk (by omega) hsk
            rw [← unhide HNK] at RC
            have CB := cmdB_pcmd Fk
            have cka := (ba.cell (p := ⟨gr, k, none⟩) lgr).trans ck
            clear oa ga hca hra HOE HRE hlenA nE ckE
            generalize pcmd Fk = PP at *
            obtain ⟨C, E⟩ := PP
            simp only [] at PC RC CB
            unfold C5.val at PC RC
            go_wp2_with fail
            refine Calls.mono PC ?_
            rintro e w5 ⟨rfl, b5⟩
            have bb5 := ba.trans (b5.mono ba.size)
            have n6 := new1 w5 C.obj
            have zx6 := alloc_heap w5 C.obj
            have bb6 := bb5.trans (n6.mono bb5.size)
            unfold C5.obj at n6 zx6 bb6
            clear PC cka b5
            go_upto_region 21 with fail
            generalize w5.alloc _ = w6 at *
            generalize w5.heap.size = xb at *
            have lx6 : xb < w6.heap.size := (Array.getElem?_eq_some_iff.1 zx6).1
            have ck6 := (bb6.cell (p := ⟨gr, k, none⟩) lgr).trans ck
            go_wp2_with fail
            refine Calls.mono (RC w6 (bkr.below bb6)) ?_
            rintro e w7 ⟨rfl, b7⟩
            have bb7 := bb6.trans (b7.mono bb6.size)
            have n8 := new1 w7 C.obj
            have zy8 := alloc_heap w7 C.obj
            have zx8 := kept_of_below n8 (kept_of_below b7 zx6)
            have bb8 := bb7.trans (n8.mono bb7.size)
            unfold C5.obj at n8 zy8 zx8 bb8
            clear RC ck6 zx6 b7
            go_upto_region 22 with fail
            generalize w7.alloc _ = w8 at *
            generalize w7.heap.size = yb at *
            obtain ⟨x0, x1, x2, x3, x4, _⟩ := blk5 zx8
            obtain ⟨y0, y1, y2, y3, y4, _⟩ := blk5 zy8
            by_cases hE0 : E = 0
            · obtain ⟨e0, eF⟩ := CB hE0
              have CO := cmd_ok C w8 e0
              rw [eF] at CO
              unfold C5.val at CO
              subst hE0
              rw [← unhide HNK] at CO
              clear CB e0 eF
              go_wp2_with fail
              refine Calls.mono CO ?_
              rintro e w9 ⟨g9, rfl, _, b9, z9⟩
              have bb9 := bb8.trans (b9.mono bb8.size)
              have ck9 := (bb9.cell (p := ⟨gr, k, none⟩) lgr).trans ck
              have CVX1 := fun q : Nat => conv_run (l := Fk) (n := nk) nk (unhide HNK) ((row_of_block z9).below (below_drewN (Below.refl w9.heap.size w9) q))
              have CVX2 := fun q : Nat => conv_run (l := Fk) (n := nk) capk (unhide HNK) ((bkr.below bb9).below (below_drewN (Below.refl w9.heap.size w9) q))
              obtain ⟨S9, hS9⟩ : ∃ S : ByteArray, S = ⟨Fk.toArray⟩ := ⟨_, rfl⟩
              simp only [← hS9] at CVX1 CVX2
              clear hS9 CO x0 x1 x2 x3 x4 y0 y1 y2 y3 y4 zx8 zy8 z9
              go_wp2_with fail
              have CV1' : ∀ nq, (convert 24 9 (.slice (some ⟨g9, 0, none⟩) nk nk)).run Tryd.prog (w9.drewN nq) = .ok (.string S9) (w9.drewN nq) := CVX1
              have CV2' : ∀ nq, (convert 24 9 (.slice aok nk capk)).run Tryd.prog (w9.drewN nq) = .ok (.string S9) (w9.drewN nq) := CVX2
              go_quiet (fail)
              have bb10 := below_drewN bb9 nq
              generalize w9.drewN nq = w10 at *
              go_wp2_with fail
              go_roundw
              case rel => exact ⟨k + 1, by omega, by go_num, br.trans (bb10.mono br.size)⟩
              case measure => simp only [intOf]; omega
            · have qE : (E == 0) = false := beq_false_of_ne hE0
              clear CB
              go_wp2_with fail
              go_roundw
              case rel => exact ⟨k + 1, by omega, by go_num, br.trans (bb8.mono br.size)⟩
              case measure => simp only [intOf]; omega
          · have i9 : ¬ (k : Int) < 3 := by omega
            go_wp2
            go_ret
            exact ⟨rfl, bR.trans (br.mono bR.size)⟩
      · have hl8 : L = F2.length := (unhide HLF).symm
        have HL8 := hide hl8
        have hl82 : F2.length ≤ 626 := by rw [← hl8]; omega
        have hl83 : F2.length ≤ cap := by rw [← hl8]; exact hLc
        clear hl8
        have nE := new1 w7 (.cells #[] 5)
        have HOE := hide (own_empty w7)
        have HRE := hide ((rb7).below nE)
        have hr4X := hr4.below b7
        have hlenA : ([] : List UInt8).length + (F2).length ≤ 140737488355328 := by rw [List.length_nil]; omega
        have hlenB : (F2).length + raw.length ≤ 140737488355328 := by omega
        go_wp2_with (at_builtin; refine wpList_app rfl _ _ rfl rfl rfl (A := []) (C := F2) (unhide HOE) (unhide HL8) (.inr ⟨_, rfl⟩) (unhide HRE) hlenA nE.size ?_)
        intro va wa oa ga
        have ba : Below w7.heap.size w7 wa := nE.grown ga nE.size (fun k hk => ((unhide HOE).lt k hk).1)
        have HOA := hide oa
        have HRA := hide (hr4X.below ba)
        clear oa ga
        go_wp2_with (at_builtin; refine wpList_app rfl _ _ rfl rfl rfl (A := F2) (C := raw) (unhide HOA) (unhide HRL) hs4 (unhide HRA) hlenB ba.size ?_)
        intro vc wc oc gc
        have bc : Below w7.heap.size w7 wc := ba.grown gc ba.size (fun k hk => ((unhide HOA).lt k hk).1)
        obtain ⟨ao2, cap2, hvc0, hcc, hsc, hrc, _⟩ := oc.open
        have hvc : vc = .slice ao2 (F2 ++ raw).length cap2 := hvc0
        clear hvc0
        obtain ⟨L2, hL2⟩ : ∃ L2, L2 = (F2 ++ raw).length := ⟨_, rfl⟩
        rw [← hL2] at hvc
        subst hvc
        have nR := new1 wc (.cells #[.slice (some ⟨g, 0, none⟩) L cap, .slice ao2 L2 cap2, .slice ao4 rl cap4] 24)
        have zR := alloc_heap wc (.cells #[.slice (some ⟨g, 0, none⟩) L cap, .slice ao2 L2 cap2, .slice ao4 rl cap4] 24)
        have R0 : RowOk (wc.alloc (.cells #[.slice (some ⟨g, 0, none⟩) L cap, .slice ao2 L2 cap2, .slice ao4 rl cap4] 24)) (.slice (some ⟨g, 0, none⟩) L cap) (F2) := ⟨(some ⟨g, 0, none⟩), cap, (by rw [show L = (F2).length from (unhide HL8)]), hl83, (.inr ⟨_, rfl⟩), ((rb7).below bc).below nR, by omega⟩
        have R1 : RowOk (wc.alloc (.cells #[.slice (some ⟨g, 0, none⟩) L cap, .slice ao2 L2 cap2, .slice ao4 rl cap4] 24)) (.slice ao2 L2 cap2) (F2 ++ raw) := ⟨ao2, cap2, by rw [hL2], hcc, hsc, hrc.below nR, by rw [List.length_append]; omega⟩
        have R2 : RowOk (wc.alloc (.cells #[.slice (some ⟨g, 0, none⟩) L cap, .slice ao2 L2 cap2, .slice ao4 rl cap4] 24)) (.slice ao4 rl cap4) raw := ⟨ao4, cap4, (by rw [unhide HRL]), hc4, hs4, (hr4X.below bc).below nR, by omega⟩
        have bR := b7.trans ((bc.trans (nR.mono bc.size)).mono b7.size)
        clear oc gc hL2 hcc hsc hrc hr4X hlenA hlenB HOE HRE HOA HRA nE ba
        go_upto_region 17 with fail
        generalize wc.alloc _ = wR at *
        generalize wc.heap.size = gr at *
        have lgR : gr < wR.heap.size := (Array.getElem?_eq_some_iff.1 zR).1
        have RG := fun k hk => rows_get zR R0 R1 R2 k hk
        have HRG := hide RG
        clear RG R0 R1 R2 zR nR bc
        go_wp2_with fail
        go_loopw [18] (fun iv wr => ∃ k : Nat, k ≤ 3 ∧ iv = .int .i64 k ∧ Below wR.heap.size wR wr) (fun iv _ => 3 - (intOf iv).toNat)
        case atStart => exact ⟨0, Nat.zero_le _, rfl, Below.refl _ wR⟩
        case round =>
          obtain ⟨k, hk, rfl, br⟩ := hrel
          by_cases hlt : k < 3
          · have i9 : (k : Int) < 3 := by omega
            obtain ⟨vk, Fk, hck, hok⟩ := unhide HRG k hlt
            obtain ⟨aok, capk, rfl, hlk, hsk, hbk, h3k⟩ := hok.ok
            have lgr : gr < wr.heap.size := Nat.lt_of_lt_of_le lgR br.size
            have ck := (br.cell (p := ⟨gr, k, none⟩) lgR).trans hck
            have bkr := hbk.below br
            obtain ⟨nk, hnk⟩ : ∃ nk, nk = Fk.length := ⟨_, rfl⟩
            rw [← hnk] at ck
            have HNK := hide hnk
            have nE := new1 wr (.cells #[] 5)
            have ckE := (nE.cell (p := ⟨gr, k, none⟩) lgr).trans ck
            have HOE := hide (own_empty wr)
            have HRE := hide (bkr.below nE)
            have hlenA : ([] : List UInt8).length + Fk.length ≤ 140737488355328 := by simp; omega
            clear hok hck hnk
            go_wp2_with (at_builtin; refine wpList_app rfl _ _ rfl rfl rfl (A := []) (C := Fk) (unhide HOE) (unhide HNK) hsk (unhide HRE) hlenA nE.size ?_)
            intro va wa oa ga
            have ba : Below wr.heap.size wr wa := nE.grown ga nE.size (fun k hk => ((unhide HOE).lt k hk).1)
            obtain ⟨ao5, cap5, hva0, hca, _, hra, _⟩ := oa.open
            have hva : va = .slice ao5 Fk.length cap5 := hva0
            clear hva0
            have PC := parseCmd_any Fk ao5 cap5 wa hra hca
            rw [← unhide HNK] at hva PC
            subst hva
            have RC := fun w' h' => rparseCmd_any Fk aok capk w' h' hlk (by omega) hsk
            rw [← unhide HNK] at RC
            have CB := cmdB_pcmd Fk
            have cka := (ba.cell (p := ⟨gr, k, none⟩) lgr).trans ck
            clear oa ga hca hra HOE HRE hlenA nE ckE
            generalize pcmd Fk = PP at *
            obtain ⟨C, E⟩ := PP
            simp only [] at PC RC CB
            unfold C5.val at PC RC
            go_wp2_with fail
            refine Calls.mono PC ?_
            rintro e w5 ⟨rfl, b5⟩
            have bb5 := ba.trans (b5.mono ba.size)
            have n6 := new1 w5 C.obj
            have zx6 := alloc_heap w5 C.obj
            have bb6 := bb5.trans (n6.mono bb5.size)
            unfold C5.obj at n6 zx6 bb6
            clear PC cka b5
            go_upto_region 21 with fail
            generalize w5.alloc _ = w6 at *
            generalize w5.heap.size = xb at *
            have lx6 : xb < w6.heap.size := (Array.getElem?_eq_some_iff.1 zx6).1
            have ck6 := (bb6.cell (p := ⟨gr, k, none⟩) lgr).trans ck
            go_wp2_with fail
            refine Calls.mono (RC w6 (bkr.below bb6)) ?_
            rintro e w7 ⟨rfl, b7⟩
            have bb7 := bb6.trans (b7.mono bb6.size)
            have n8 := new1 w7 C.obj
            have zy8 := alloc_heap w7 C.obj
            have zx8 := kept_of_below n8 (kept_of_below b7 zx6)
            have bb8 := bb7.trans (n8.mono bb7.size)
            unfold C5.obj at n8 zy8 zx8 bb8
            clear RC ck6 zx6 b7
            go_upto_region 22 with fail
            generalize w7.alloc _ = w8 at *
            generalize w7.heap.size = yb at *
            obtain ⟨x0, x1, x2, x3, x4, _⟩ := blk5 zx8
            obtain ⟨y0, y1, y2, y3, y4, _⟩ := blk5 zy8
            by_cases hE0 : E = 0
            · obtain ⟨e0, eF⟩ := CB hE0
              have CO := cmd_ok C w8 e0
              rw [eF] at CO
              unfold C5.val at CO
              subst hE0
              rw [← unhide HNK] at CO
              clear CB e0 eF
              go_wp2_with fail
              refine Calls.mono CO ?_
              rintro e w9 ⟨g9, rfl, _, b9, z9⟩
              have bb9 := bb8.trans (b9.mono bb8.size)
              have ck9 := (bb9.cell (p := ⟨gr, k, none⟩) lgr).trans ck
              have CVX1 := fun q : Nat => conv_run (l := Fk) (n := nk) nk (unhide HNK) ((row_of_block z9).below (below_drewN (Below.refl w9.heap.size w9) q))
              have CVX2 := fun q : Nat => conv_run (l := Fk) (n := nk) capk (unhide HNK) ((bkr.below bb9).below (below_drewN (Below.refl w9.heap.size w9) q))
              obtain ⟨S9, hS9⟩ : ∃ S : ByteArray, S = ⟨Fk.toArray⟩ := ⟨_, rfl⟩
              simp only [← hS9] at CVX1 CVX2
              clear hS9 CO x0 x1 x2 x3 x4 y0 y1 y2 y3 y4 zx8 zy8 z9
              go_wp2_with fail
              have CV1' : ∀ nq, (convert 24 9 (.slice (some ⟨g9, 0, none⟩) nk nk)).run Tryd.prog (w9.drewN nq) = .ok (.string S9) (w9.drewN nq) := CVX1
              have CV2' : ∀ nq, (convert 24 9 (.slice aok nk capk)).run Tryd.prog (w9.drewN nq) = .ok (.string S9) (w9.drewN nq) := CVX2
              go_quiet (fail)
              have bb10 := below_drewN bb9 nq
              generalize w9.drewN nq = w10 at *
              go_wp2_with fail
              go_roundw
              case rel => exact ⟨k + 1, by omega, by go_num, br.trans (bb10.mono br.size)⟩
              case measure => simp only [intOf]; omega
            · have qE : (E == 0) = false := beq_false_of_ne hE0
              clear CB
              go_wp2_with fail
              go_roundw
              case rel => exact ⟨k + 1, by omega, by go_num, br.trans (bb8.mono br.size)⟩
              case measure => simp only [intOf]; omega
          · have i9 : ¬ (k : Int) < 3 := by omega
            go_wp2
            go_ret
            exact ⟨rfl, bR.trans (br.mono bR.size)⟩
    · have CP := fun w' => CP w' hE
      have RP := fun w' => RP w' hE
      have qE : (errC c == 0) = false := beq_false_of_ne hE
      clear CO RO
      unfold C5.val at CP RP ⊢
      unfold C5.obj at K0 n1 z1
      generalize errC c = E0 at *
      clear hE
      go_enter Tryd.func3, Tryd.ntmps3
      go_wp2_with fail
      refine Calls.mono K0 ?_
      rintro e w2 ⟨rfl, b2⟩
      have z2 := kept_of_below b2 z1
      have bb2 := n1.trans (b2.mono n1.size)
      clear K0
      generalize w.alloc _ = w1 at *
      obtain ⟨c0, c1, c2, c3, c4, _⟩ := blk5 z2
      go_wp2_with fail
      refine Calls.mono (CP w2) ?_
      rintro e w3 ⟨rfl, b3⟩
      have bb3 := bb2.trans (b3.mono bb2.size)
      have z3 := kept_of_below b3 z2
      clear c0 c1 c2 c3 c4 CP
      obtain ⟨c0, c1, c2, c3, c4, _⟩ := blk5 z3
      go_wp2_with fail
      refine Calls.mono (RP w3) ?_
      rintro e w4 ⟨rfl, b4⟩
      have bb4 := bb3.trans (b4.mono bb3.size)
      clear c0 c1 c2 c3 c4 RP
      have CV0 := conv_run (w := w4) (ao := none) (l := []) (n := 0) 0 rfl (.inl rfl)
      have rb0 : BRow w4 none [] := .inl rfl
      have h00 : ([] : List UInt8).length ≤ 626 := by decide
      have h01 : ([] : List UInt8).length ≤ 0 := Nat.le_refl _
      have HL8 : RowKit.Hid (0 = ([] : List UInt8).length) := hide rfl
      have nE := new1 w4 (.cells #[] 5)
      have HOE := hide (own_empty w4)
      have HRE := hide ((rb0).below nE)
      have hr4X := hr4.below bb4
      have hlenA : ([] : List UInt8).length + (([] : List UInt8)).length ≤ 140737488355328 := by rw [List.length_nil]; omega
      have hlenB : (([] : List UInt8)).length + raw.length ≤ 140737488355328 := by omega
      go_wp2_with (at_builtin; refine wpList_app rfl _ _ rfl rfl rfl (A := []) (C := ([] : List UInt8)) (unhide HOE) (unhide HL8) (.inl ⟨rfl, rfl⟩) (unhide HRE) hlenA nE.size ?_)
      intro va wa oa ga
      have ba : Below w4.heap.size w4 wa := nE.grown ga nE.size (fun k hk => ((unhide HOE).lt k hk).1)
      have HOA := hide oa
      have HRA := hide (hr4X.below ba)
      clear oa ga
      go_wp2_with (at_builtin; refine wpList_app rfl _ _ rfl rfl rfl (A := ([] : List UInt8)) (C := raw) (unhide HOA) (unhide HRL) hs4 (unhide HRA) hlenB ba.size ?_)
      intro vc wc oc gc
      have bc : Below w4.heap.size w4 wc := ba.grown gc ba.size (fun k hk => ((unhide HOA).lt k hk).1)
      obtain ⟨ao2, cap2, hvc0, hcc, hsc, hrc, _⟩ := oc.open
      have hvc : vc = .slice ao2 (([] : List UInt8) ++ raw).length cap2 := hvc0
      clear hvc0
      obtain ⟨L2, hL2⟩ : ∃ L2, L2 = (([] : List UInt8) ++ raw).length := ⟨_, rfl⟩
      rw [← hL2] at hvc
      subst hvc
      have nR := new1 wc (.cells #[.slice none 0 0, .slice ao2 L2 cap2, .slice ao4 rl cap4] 24)
      have zR := alloc_heap wc (.cells #[.slice none 0 0, .slice ao2 L2 cap2, .slice ao4 rl cap4] 24)
      have R0 : RowOk (wc.alloc (.cells #[.slice none 0 0, .slice ao2 L2 cap2, .slice ao4 rl cap4] 24)) (.slice none 0 0) (([] : List UInt8)) := ⟨none, 0, (by rw [show 0 = (([] : List UInt8)).length from (unhide HL8)]), h01, (.inl ⟨rfl, rfl⟩), ((rb0).below bc).below nR, by omega⟩
      have R1 : RowOk (wc.alloc (.cells #[.slice none 0 0, .slice ao2 L2 cap2, .slice ao4 rl cap4] 24)) (.slice ao2 L2 cap2) (([] : List UInt8) ++ raw) := ⟨ao2, cap2, by rw [hL2], hcc, hsc, hrc.below nR, by rw [List.length_append]; omega⟩
      have R2 : RowOk (wc.alloc (.cells #[.slice none 0 0, .slice ao2 L2 cap2, .slice ao4 rl cap4] 24)) (.slice ao4 rl cap4) raw := ⟨ao4, cap4, (by rw [unhide HRL]), hc4, hs4, (hr4X.below bc).below nR, by omega⟩
      have bR := bb4.trans ((bc.trans (nR.mono bc.size)).mono bb4.size)
      clear oc gc hL2 hcc hsc hrc hr4X hlenA hlenB HOE HRE HOA HRA nE ba
      go_upto_region 17 with fail
      generalize wc.alloc _ = wR at *
      generalize wc.heap.size = gr at *
      have lgR : gr < wR.heap.size := (Array.getElem?_eq_some_iff.1 zR).1
      have RG := fun k hk => rows_get zR R0 R1 R2 k hk
      have HRG := hide RG
      clear RG R0 R1 R2 zR nR bc
      go_wp2_with fail
      go_loopw [18] (fun iv wr => ∃ k : Nat, k ≤ 3 ∧ iv = .int .i64 k ∧ Below wR.heap.size wR wr) (fun iv _ => 3 - (intOf iv).toNat)
      case atStart => exact ⟨0, Nat.zero_le _, rfl, Below.refl _ wR⟩
      case round =>
        obtain ⟨k, hk, rfl, br⟩ := hrel
        by_cases hlt : k < 3
        · have i9 : (k : Int) < 3 := by omega
          obtain ⟨vk, Fk, hck, hok⟩ := unhide HRG k hlt
          obtain ⟨aok, capk, rfl, hlk, hsk, hbk, h3k⟩ := hok.ok
          have lgr : gr < wr.heap.size := Nat.lt_of_lt_of_le lgR br.size
          have ck := (br.cell (p := ⟨gr, k, none⟩) lgR).trans hck
          have bkr := hbk.below br
          obtain ⟨nk, hnk⟩ : ∃ nk, nk = Fk.length := ⟨_, rfl⟩
          rw [← hnk] at ck
          have HNK := hide hnk
          have nE := new1 wr (.cells #[] 5)
          have ckE := (nE.cell (p := ⟨gr, k, none⟩) lgr).trans ck
          have HOE := hide (own_empty wr)
          have HRE := hide (bkr.below nE)
          have hlenA : ([] : List UInt8).length + Fk.length ≤ 140737488355328 := by simp; omega
          clear hok hck hnk
          go_wp2_with (at_builtin; refine wpList_app rfl _ _ rfl rfl rfl (A := []) (C := Fk) (unhide HOE) (unhide HNK) hsk (unhide HRE) hlenA nE.size ?_)
          intro va wa oa ga
          have ba : Below wr.heap.size wr wa := nE.grown ga nE.size (fun k hk => ((unhide HOE).lt k hk).1)
          obtain ⟨ao5, cap5, hva0, hca, _, hra, _⟩ := oa.open
          have hva : va = .slice ao5 Fk.length cap5 := hva0
          clear hva0
          have PC := parseCmd_any Fk ao5 cap5 wa hra hca
          rw [← unhide HNK] at hva PC
          subst hva
          have RC := fun w' h' => rparseCmd_any Fk aok capk w' h' hlk (by omega) hsk
          rw [← unhide HNK] at RC
          have CB := cmdB_pcmd Fk
          have cka := (ba.cell (p := ⟨gr, k, none⟩) lgr).trans ck
          clear oa ga hca hra HOE HRE hlenA nE ckE
          generalize pcmd Fk = PP at *
          obtain ⟨C, E⟩ := PP
          simp only [] at PC RC CB
          unfold C5.val at PC RC
          go_wp2_with fail
          refine Calls.mono PC ?_
          rintro e w5 ⟨rfl, b5⟩
          have bb5 := ba.trans (b5.mono ba.size)
          have n6 := new1 w5 C.obj
          have zx6 := alloc_heap w5 C.obj
          have bb6 := bb5.trans (n6.mono bb5.size)
          unfold C5.obj at n6 zx6 bb6
          clear PC cka b5
          go_upto_region 21 with fail
          generalize w5.alloc _ = w6 at *
          generalize w5.heap.size = xb at *
          have lx6 : xb < w6.heap.size := (Array.getElem?_eq_some_iff.1 zx6).1
          have ck6 := (bb6.cell (p := ⟨gr, k, none⟩) lgr).trans ck
          go_wp2_with fail
          refine Calls.mono (RC w6 (bkr.below bb6)) ?_
          rintro e w7 ⟨rfl, b7⟩
          have bb7 := bb6.trans (b7.mono bb6.size)
          have n8 := new1 w7 C.obj
          have zy8 := alloc_heap w7 C.obj
          have zx8 := kept_of_below n8 (kept_of_below b7 zx6)
          have bb8 := bb7.trans (n8.mono bb7.size)
          unfold C5.obj at n8 zy8 zx8 bb8
          clear RC ck6 zx6 b7
          go_upto_region 22 with fail
          generalize w7.alloc _ = w8 at *
          generalize w7.heap.size = yb at *
          obtain ⟨x0, x1, x2, x3, x4, _⟩ := blk5 zx8
          obtain ⟨y0, y1, y2, y3, y4, _⟩ := blk5 zy8
          by_cases hE0 : E = 0
          · obtain ⟨e0, eF⟩ := CB hE0
            have CO := cmd_ok C w8 e0
            rw [eF] at CO
            unfold C5.val at CO
            subst hE0
            rw [← unhide HNK] at CO
            clear CB e0 eF
            go_wp2_with fail
            refine Calls.mono CO ?_
            rintro e w9 ⟨g9, rfl, _, b9, z9⟩
            have bb9 := bb8.trans (b9.mono bb8.size)
            have ck9 := (bb9.cell (p := ⟨gr, k, none⟩) lgr).trans ck
            have CVX1 := fun q : Nat => conv_run (l := Fk) (n := nk) nk (unhide HNK) ((row_of_block z9).below (below_drewN (Below.refl w9.heap.size w9) q))
            have CVX2 := fun q : Nat => conv_run (l := Fk) (n := nk) capk (unhide HNK) ((bkr.below bb9).below (below_drewN (Below.refl w9.heap.size w9) q))
            obtain ⟨S9, hS9⟩ : ∃ S : ByteArray, S = ⟨Fk.toArray⟩ := ⟨_, rfl⟩
            simp only [← hS9] at CVX1 CVX2
            clear hS9 CO x0 x1 x2 x3 x4 y0 y1 y2 y3 y4 zx8 zy8 z9
            go_wp2_with fail
            have CV1' : ∀ nq, (convert 24 9 (.slice (some ⟨g9, 0, none⟩) nk nk)).run Tryd.prog (w9.drewN nq) = .ok (.string S9) (w9.drewN nq) := CVX1
            have CV2' : ∀ nq, (convert 24 9 (.slice aok nk capk)).run Tryd.prog (w9.drewN nq) = .ok (.string S9) (w9.drewN nq) := CVX2
            go_quiet (fail)
            have bb10 := below_drewN bb9 nq
            generalize w9.drewN nq = w10 at *
            go_wp2_with fail
            go_roundw
            case rel => exact ⟨k + 1, by omega, by go_num, br.trans (bb10.mono br.size)⟩
            case measure => simp only [intOf]; omega
          · have qE : (E == 0) = false := beq_false_of_ne hE0
            clear CB
            go_wp2_with fail
            go_roundw
            case rel => exact ⟨k + 1, by omega, by go_num, br.trans (bb8.mono br.size)⟩
            case measure => simp only [intOf]; omega
        · have i9 : ¬ (k : Int) < 3 := by omega
          go_wp2
          go_ret
          exact ⟨rfl, bR.trans (br.mono bR.size)⟩
end Go.Proofs.YtkeljejddfpnmaaDoor
