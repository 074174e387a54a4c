/-
  parse.Uid of a text that is one.
-/
import Derived.Test.YtlakgnnjokienaaGreatDoorPcE
namespace Go.Proofs.YtlakgnnjokienaaGreatDoor
open Go.RowKit Go.Sort

set_option maxHeartbeats 4000000 in
set_option maxRecDepth 1000000 in
theorem readU_ok (s : ByteArray) (ts : List Tok) (T I : ByteArray) (w : World) (hT : Tabs w) (hs : s.size ≤ 1099511627776) (hts : toks s.data.toList = (ts, 0)) (hl : ts.length ≤ 200) (hst : uidSt (some ts) = some []) (hT1 : (⟨(needTok 1 (some ts)).s.toArray⟩ : ByteArray) = T) (hI1 : (⟨(uidId (some ts)).s.toArray⟩ : ByteArray) = I) :
    Calls Tryz.prog 16 #[.string s, .func (.func 17) #[] #[], .func (.func 18) #[] #[]] w fun e w' => e = .returned (.tuple #[.agg #[.string T, .string I], .int .i64 0]) ∧ Below w.heap.size w w' := by
  have b0 := box2 w (.cells #[.string ⟨#[]⟩, .string ⟨#[]⟩] 25) (.cells #[.string ⟨#[]⟩, .string ⟨#[]⟩] 25)
  have hT0 := hT.below b0
  have TK := tokens_any s _ hT0.1 hs
  rw [hts] at TK
  simp only at TK
  have z6 : ((w.alloc (.cells #[.string ⟨#[]⟩, .string ⟨#[]⟩] 25)).alloc (.cells #[.string ⟨#[]⟩, .string ⟨#[]⟩] 25)).heap[w.heap.size]? = some (.cells #[.string ⟨#[]⟩, .string ⟨#[]⟩] 25 (0, 0)) := kept_of_below (new1 _ _) (alloc_heap _ _)
  have HT0 := hide hT0
  have HST := hide hst
  have HT1 := hide hT1
  have HI1 := hide hI1
  clear hT hT0 hts hst hT1 hI1
  go_enter Tryz.func16, Tryz.ntmps16
  go_wp2_with fail
  generalize (w.alloc _).alloc _ = w0 at *
  refine TK.mono ?_
  rintro e w1 ⟨v, rfl, hown, b1⟩
  obtain ⟨ao, cap, rfl, hcap, hrow⟩ := blkTok hown
  have hT1 := (unhide HT0).below b1
  have b01 := b0.trans (b1.mono b0.size)
  have n2 := new1 w1 (.cells #[.slice ao ts.length cap, .bool false] 59)
  have hrd : RdAt (w1.alloc (.cells #[.slice ao ts.length cap, .bool false] 59)) w1.heap.size (some ts) := by
    refine ⟨⟨ao, cap, alloc_heap _ _, hcap, by omega, hrow.same fun k hk => n2.block k hk⟩, ?_⟩
    obtain ⟨_, h2, t, fr, h3⟩ := hT1
    exact ⟨h2, t, fr, kept_of_below n2 h3⟩
  have X := uid_any (some ts) _ w1.heap.size hrd
  rw [unhide HT1, unhide HI1, unhide HST] at X
  unfold rp at X
  have hz6 := (Array.getElem?_eq_some_iff.1 z6).1
  have hs1 := b1.size
  have z6 := kept_of_below n2 (kept_of_below b1 z6)
  have b02 := b01.trans (n2.mono b01.size)
  have hz2 : w1.heap.size < (w1.alloc (.cells #[.slice ao ts.length cap, .bool false] 59)).heap.size := by simp
  clear hown hrow hrd hT1 TK HT0 HT1 HI1 HST
  go_upto_region 6 with fail
  generalize w1.alloc _ = w2 at *
  go_wp2_with fail
  refine X.mono ?_
  rintro e w3 ⟨rfl, k3, r3⟩
  clear X
  have n4 := new1 w3 (.cells #[.string T, .string I] 25)
  have hs3 := k3.size
  have K4 : Below w.heap.size w (w3.alloc (.cells #[.string T, .string I] 25)) := (k3.below b02 (by omega) (by omega)).trans (n4.mono (by omega))
  have y12 : (w3.alloc (.cells #[.string T, .string I] 25)).heap[w3.heap.size]? = some (.cells #[.string T, .string I] 25 (0, 0)) := alloc_heap _ _
  have y6 := kept_of_below n4 (k3.kept (by omega) z6)
  have R4 := r3.below n4
  obtain ⟨ao', cap', hrd, _, _, _⟩ := (show Rd0 _ w1.heap.size (some []) from R4.1)
  clear n4 z6 r3 R4
  go_upto_region 7 with fail
  generalize w3.alloc _ = w4 at *
  obtain ⟨c0, c1, _⟩ := rd_cell hrd
  have c0 : w4.cell? ⟨w1.heap.size, 0, none⟩ = some (.slice ao' 0 cap') := c0
  obtain ⟨x0, x1, xf⟩ := blk2 y6
  obtain ⟨u0, u1, _⟩ := blk2 y12
  clear hrd
  go_wp2
  exact bodyPost_ret (v := .tuple #[.agg #[.string T, .string I], .int .i64 0]) (by simp [results, Tryz.results16, go_sem, x0, x1]) rfl ⟨rfl, (K4.setCell (p := ⟨w.heap.size, 0, none⟩) (Nat.le_refl _) _).setCell (p := ⟨w.heap.size, 1, none⟩) (Nat.le_refl _) _⟩

set_option maxHeartbeats 4000000 in
set_option maxRecDepth 1000000 in
theorem puid_ok (s : ByteArray) (ts : List Tok) (T I : ByteArray) (w : World) (hT : Tabs w) (hs : s.size ≤ 1099511627776) (hts : toks s.data.toList = (ts, 0)) (hl : ts.length ≤ 200) (hst : uidSt (some ts) = some []) (hT1 : (⟨(needTok 1 (some ts)).s.toArray⟩ : ByteArray) = T) (hI1 : (⟨(uidId (some ts)).s.toArray⟩ : ByteArray) = I) :
    Calls Tryz.prog 12 #[.string s] w fun e w' => e = .returned (.tuple #[.agg #[.string T, .string I], .int .i64 0]) ∧ Below w.heap.size w w' := by
  have b0 := new1 w (.cells #[.string ⟨#[]⟩, .string ⟨#[]⟩] 25)
  have z0 : (w.alloc (.cells #[.string ⟨#[]⟩, .string ⟨#[]⟩] 25)).heap[w.heap.size]? = some (.cells #[.string ⟨#[]⟩, .string ⟨#[]⟩] 25 (0, 0)) := alloc_heap _ _
  have RD := readU_ok s ts T I _ (hT.below b0) hs hts hl hst hT1 hI1
  clear hT hs hts hl hst hT1 hI1
  go_enter Tryz.func12, Tryz.ntmps12
  go_wp2_with fail
  generalize w.alloc _ = w0 at *
  refine RD.mono ?_
  rintro e w1 ⟨rfl, b1⟩
  have b01 := b0.trans (b1.mono b0.size)
  obtain ⟨x0, x1, xf⟩ := blk2 (kept_of_below b1 z0)
  clear RD
  go_wp2
  exact bodyPost_ret (v := .tuple #[.agg #[.string T, .string I], .int .i64 0]) (by simp [results, Tryz.results12, go_sem, x0, x1]) rfl ⟨rfl, (b01.setCell (p := ⟨w.heap.size, 0, none⟩) (Nat.le_refl _) _).setCell (p := ⟨w.heap.size, 1, none⟩) (Nat.le_refl _) _⟩
end Go.Proofs.YtlakgnnjokienaaGreatDoor
