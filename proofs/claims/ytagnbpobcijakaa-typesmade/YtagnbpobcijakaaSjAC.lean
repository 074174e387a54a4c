/-
 slices.Index, Contains of texts; schema.Fits: what they return.
 schema.Fits: what it returns.
 schema.copyList of texts, of fields: what it returns.
 schema.Field, chancelref10.Field: what they return.
 chancelref10.Kind, Action of schemas whose rows lie in blocks of their types: what they return.
 schema.Kind, schema.Action: what they return.
-/
import Derived.Test.YtagnbpobcijakaaSdA
import Derived.Test.YtagnbpobcijakaaEcA
import Derived.Deep.CutBlock
import Derived.Test.YtagnbpobcijakaaSeAS
import Derived.Test.YtagnbpobcijakaaVeN
namespace Go.Proofs.Ytagnbpobcijakaa
open Go.RowKit Go.Sort

/-- A request's six. -/
structure Q6 where
 pt : ByteArray
 pi : ByteArray
 at_ : ByteArray
 ai : ByteArray
 rt : ByteArray
 ri : ByteArray
def Q6.val (q : Q6) : Value := .agg #[.string q.pt, .string q.pi, .string q.at_, .string q.ai, .string q.rt, .string q.ri]
def sAction : ByteArray := ⟨#[65, 99, 116, 105, 111, 110]⟩
def actOf (s : SP) (n : ByteArray) : Option AP := s.ac.find? fun a => decide (a.nm = n)
def fitsC (s : SP) (q : Q6) : Int := if q.at_ = sAction then match actOf s q.ai with
 | none => 15
 | some a => if noneB a.pr q.pt || noneB a.re q.rt then 16 else 0
 else 15
end Go.Proofs.Ytagnbpobcijakaa

namespace Go.Proofs.Ytagnbpobcijakaa
open Go.RowKit Go.Sort

end Go.Proofs.Ytagnbpobcijakaa

namespace Go.Proofs.Ytagnbpobcijakaa
open Go.RowKit Go.Sort

/-- A copy of a whole row into one as long, that was made for it. -/
theorem copy_rowS {P : Program} (w : World) (g n : Nat) (l : List (List Value)) (ao : Option Addr) (cap L : Nat) (rest : List Value) (dT ty elem T : TypeId) (hu : P.underlying dT = some (.slice elem)) (hs : (P.info? elem).map (·.size) = some n) (hL : L = l.length) (h0 : 0 < l.length) (hn : ∀ c ∈ l, c.length = n) (h1 : ∀ v ∈ l.flatten, v.oneCell' = true) (hr : rest.length = L * n) (hg : w.heap[g]? = some (.cells rest.toArray T (0, 0))) (h : RowG w ao n l) :
  ∃ w', (Builtin.copy_ #[dT, dT] ty #[.slice (some ⟨g, 0, none⟩) L L, .slice ao L cap]).run P w = .ok (.int .i64 L) w' ∧ w'.heap[g]? = some (.cells l.flatten.toArray T (0, 0)) ∧ (∀ B w0, Below B w0 w → B ≤ g → Below B w0 w') ∧ w'.heap.size = w.heap.size := by
 obtain ⟨b, off, rfl, _, _⟩ := h 0 h0
 have hfl := flatG_len l hn
 have := run_copy_rowN (P := P) w dT dT ty elem n L g 0 L L ⟨b, off, none⟩ L cap rest.toArray T l.flatten hu hs hg (Nat.min_self _).symm (by rw [hfl, hL]) (row_flat hn h) (by rw [hfl]; simp [hr, hL]) h1
 refine ⟨_, this, ?_, fun B w0 hb hB => hb.trans ⟨rfl, rfl, rfl, by simp [World.setRow], fun k hk => setRow_other w g k _ (by omega)⟩, by simp [World.setRow]⟩
 rw [setRow_heap w g _ _ T _ hg]
 simp [hfl, hr, hL]
theorem szStr : (Try.prog.info? 9).map (·.size) = some 1 := by kernel_rfl
theorem inStr : (Try.prog.info? 9).map (fun i => (i.zero.isSome, i.size, i.bytes)) = some (true, 1, 16) := by kernel_rfl
theorem szFld : (Try.prog.info? 109).map (·.size) = some 4 := by kernel_rfl
theorem inFld : (Try.prog.info? 109).map (fun i => (i.zero.isSome, i.size, i.bytes)) = some (true, 4, 48) := by kernel_rfl
theorem oneS (l : List ByteArray) : ∀ v ∈ (l.map strC).flatten, v.oneCell' = true := by
 intro v hv
 obtain ⟨c, hc, hv⟩ := List.mem_flatten.1 hv
 obtain ⟨x, _, rfl⟩ := List.mem_map.1 hc
 unfold strC at hv
 rw [List.mem_singleton.1 hv]
 rfl
theorem oneF (l : List F4) : ∀ v ∈ (l.map F4.cells).flatten, v.oneCell' = true := by
 intro v hv
 obtain ⟨c, hc, hv⟩ := List.mem_flatten.1 hv
 obtain ⟨x, _, rfl⟩ := List.mem_map.1 hc
 simp only [F4.cells, List.mem_cons, List.not_mem_nil, or_false] at hv
 rcases hv with rfl | rfl | rfl | rfl <;> rfl
set_option maxHeartbeats 2000000 in
set_option maxRecDepth 1000000 in
theorem mcopyS_any (l : List ByteArray) (ao : Option Addr) (cap : Nat) (w : World) (hl : l.length ≤ 1048576) (hr : RowG w ao 1 (l.map strC)) :
  Calls Try.prog 66 #[.slice ao l.length cap] w fun e w' => Below w.heap.size w w' ∧ ∃ b, e = .returned (.slice (some ⟨b, 0, none⟩) l.length l.length) ∧ w.heap.size ≤ b ∧ RowG w' (some ⟨b, 0, none⟩) 1 (l.map strC) ∧ ∃ cur fz, w'.heap[b]? = some (.cells cur 9 fz) := by
 by_cases h0 : l.length = 0
 ·obtain rfl : l = [] := List.eq_nil_of_length_eq_zero h0
  clear h0 hr hl
  obtain ⟨rest, hre, hmk⟩ := make_rowN (P := Try.prog) 77 9 1 16 0 (0 : Int) Try.underlying77 inStr rfl (by omega) (by decide)
  have b1 := blw1 w (.cells rest.toArray 9)
  have hcp := run_copy_noneN (P := Try.prog) (w.alloc (.cells rest.toArray 9)) 77 77 3 9 1 (some ⟨w.heap.size, 0, none⟩) ao 0 0 0 cap Try.underlying77 szStr (by simp)
  simp only [List.length_nil]
  clear hre
  go_enter Try.func66, Try.ntmps66
  go_wp2
  go_ret
  exact ⟨b1, _, rfl, Nat.le_refl _, rowG_nil _ _ _, _, _, alloc_heap _ _⟩
 ·obtain ⟨L, hL⟩ : ∃ L : Nat, L = l.length := ⟨_, rfl⟩
  have hlen : ∀ c ∈ l.map strC, c.length = 1 := fun c hc => by
   obtain ⟨u, _, rfl⟩ := List.mem_map.1 hc
   rfl
  obtain ⟨rest, hre, hmk⟩ := make_rowN (P := Try.prog) 77 9 1 16 L (L : Int) Try.underlying77 inStr rfl (by omega) (by decide)
  have b1 := blw1 w (.cells rest.toArray 9)
  obtain ⟨w2, hcp, h2, k2, _⟩ := copy_rowS (P := Try.prog) (w.alloc (.cells rest.toArray 9)) w.heap.size 1 (l.map strC) ao cap L rest 77 3 9 9 Try.underlying77 szStr (by rw [hL]; simp) (by simp; omega) hlen (oneS l) hre (alloc_heap _ _) (hr.below b1)
  have hb2 := k2 _ _ b1 (Nat.le_refl _)
  have HR2 := hide (And.intro (row_of_flat hlen h2) h2)
  have i0 : ((L : Int) == 0) = false := by
   have : ¬ (L : Int) = 0 := by omega
   simpa using this
  have HL := hide hL
  rw [← hL]
  clear hL h0 hr hl hre k2 h2 hlen
  go_enter Try.func66, Try.ntmps66
  go_wp2
  go_ret
  exact ⟨hb2, _, rfl, Nat.le_refl _, (unhide HR2).1, _, _, (unhide HR2).2⟩
set_option maxHeartbeats 2000000 in
set_option maxRecDepth 1000000 in
theorem mcopyF_any (l : List F4) (ao : Option Addr) (cap : Nat) (w : World) (hl : l.length ≤ 1048576) (hr : RowG w ao 4 (l.map F4.cells)) :
  Calls Try.prog 68 #[.slice ao l.length cap] w fun e w' => Below w.heap.size w w' ∧ ∃ b, e = .returned (.slice (some ⟨b, 0, none⟩) l.length l.length) ∧ w.heap.size ≤ b ∧ RowG w' (some ⟨b, 0, none⟩) 4 (l.map F4.cells) ∧ ∃ cur fz, w'.heap[b]? = some (.cells cur 109 fz) := by
 by_cases h0 : l.length = 0
 ·obtain rfl : l = [] := List.eq_nil_of_length_eq_zero h0
  clear h0 hr hl
  obtain ⟨rest, hre, hmk⟩ := make_rowN (P := Try.prog) 78 109 4 48 0 (0 : Int) Try.underlying78 inFld rfl (by omega) (by decide)
  have b1 := blw1 w (.cells rest.toArray 109)
  have hcp := run_copy_noneN (P := Try.prog) (w.alloc (.cells rest.toArray 109)) 78 78 3 109 4 (some ⟨w.heap.size, 0, none⟩) ao 0 0 0 cap Try.underlying78 szFld (by simp)
  simp only [List.length_nil]
  clear hre
  go_enter Try.func68, Try.ntmps68
  go_wp2
  go_ret
  exact ⟨b1, _, rfl, Nat.le_refl _, rowG_nil _ _ _, _, _, alloc_heap _ _⟩
 ·obtain ⟨L, hL⟩ : ∃ L : Nat, L = l.length := ⟨_, rfl⟩
  have hlen : ∀ c ∈ l.map F4.cells, c.length = 4 := fun c hc => by
   obtain ⟨u, _, rfl⟩ := List.mem_map.1 hc
   rfl
  obtain ⟨rest, hre, hmk⟩ := make_rowN (P := Try.prog) 78 109 4 48 L (L : Int) Try.underlying78 inFld rfl (by omega) (by decide)
  have b1 := blw1 w (.cells rest.toArray 109)
  obtain ⟨w2, hcp, h2, k2, _⟩ := copy_rowS (P := Try.prog) (w.alloc (.cells rest.toArray 109)) w.heap.size 4 (l.map F4.cells) ao cap L rest 78 3 109 109 Try.underlying78 szFld (by rw [hL]; simp) (by simp; omega) hlen (oneF l) hre (alloc_heap _ _) (hr.below b1)
  have hb2 := k2 _ _ b1 (Nat.le_refl _)
  have HR2 := hide (And.intro (row_of_flat hlen h2) h2)
  have i0 : ((L : Int) == 0) = false := by
   have : ¬ (L : Int) = 0 := by omega
   simpa using this
  have HL := hide hL
  rw [← hL]
  clear hL h0 hr hl hre k2 h2 hlen
  go_enter Try.func68, Try.ntmps68
  go_wp2
  go_ret
  exact ⟨hb2, _, rfl, Nat.le_refl _, (unhide HR2).1, _, _, (unhide HR2).2⟩
end Go.Proofs.Ytagnbpobcijakaa

namespace Go.Proofs.Ytagnbpobcijakaa
open Go.RowKit Go.Sort

/-- The type of the first field of a name, and whether there is one. -/
def fldV : List F4 → ByteArray → Value
 | [], _ => .tuple #[.agg #[.int .i64 0, .int .i64 0, .string ⟨#[]⟩], .bool false]
 | f :: t, n => if f.nm = n then .tuple #[.agg #[.int .i64 f.k, .int .i64 f.o, .string f.tn], .bool true] else fldV t n
theorem fldV_drop (l : List F4) (n : ByteArray) (i : Nat) (h : i < l.length) : fldV (l.drop i) n = if l[i].nm = n then .tuple #[.agg #[.int .i64 l[i].k, .int .i64 l[i].o, .string l[i].tn], .bool true] else fldV (l.drop (i + 1)) n := by
 rw [List.drop_eq_getElem_cons h]
 rfl
set_option maxHeartbeats 2000000 in
set_option maxRecDepth 1000000 in
theorem rField_any (k : KP) (x : N3) (n : ByteArray) (w : World) (hl : k.fs.length ≤ 281474976710656) (hk : IsK w x k) :
  Calls Try.prog 57 #[x.val, .string n] w fun e w' => e = .returned (fldV k.fs n) ∧ Below w.heap.size w w' := by
 obtain ⟨xn, xao, xal, xac, xbo, xbl, xbc⟩ := x
 obtain ⟨k1, k2, k3, k4, k5⟩ := hk
 clear k1 k2 k3
 simp only at k4 k5
 subst k4
 unfold N3.val
 simp only
 have HR := hide k5
 clear k5
 have b2 := blw2 w (.cells #[.string xn, .slice xao xal xac, .slice xbo k.fs.length xbc] 80) (.cells #[.int .i64 0, .int .i64 0, .string ⟨#[]⟩] 54)
 have hbx : ((w.alloc (.cells #[.string xn, .slice xao xal xac, .slice xbo k.fs.length xbc] 80)).alloc (.cells #[.int .i64 0, .int .i64 0, .string ⟨#[]⟩] 54)).heap[w.heap.size]? = some (.cells #[.string xn, .slice xao xal xac, .slice xbo k.fs.length xbc] 80 (0, 0)) := by
  rw [Below.heap_alloc _ _ _ (by simp)]
  exact alloc_heap _ _
 have hq : ((w.alloc (.cells #[.string xn, .slice xao xal xac, .slice xbo k.fs.length xbc] 80)).alloc (.cells #[.int .i64 0, .int .i64 0, .string ⟨#[]⟩] 54)).heap[w.heap.size + 1]? = some (.cells #[.int .i64 0, .int .i64 0, .string ⟨#[]⟩] 54 (0, 0)) := by
  have := alloc_heap (w.alloc (.cells #[.string xn, .slice xao xal xac, .slice xbo k.fs.length xbc] 80)) (.cells #[.int .i64 0, .int .i64 0, .string ⟨#[]⟩] 54)
  simpa using this
 have z2 : w.heap.size + 2 ≤ ((w.alloc (.cells #[.string xn, .slice xao xal xac, .slice xbo k.fs.length xbc] 80)).alloc (.cells #[.int .i64 0, .int .i64 0, .string ⟨#[]⟩] 54)).heap.size := by simp
 have c2 : ((w.alloc (.cells #[.string xn, .slice xao xal xac, .slice xbo k.fs.length xbc] 80)).alloc (.cells #[.int .i64 0, .int .i64 0, .string ⟨#[]⟩] 54)).cell? ⟨w.heap.size, 2, none⟩ = some (.slice xbo k.fs.length xbc) := lc_ hbx rfl
 obtain ⟨FV, hFV⟩ : ∃ FV, FV = fldV k.fs n := ⟨_, rfl⟩
 rw [← hFV]
 have HFV := hide hFV
 clear hFV
 go_enter Try.func57, Try.ntmps57
 go_wp2_with fail
 generalize (w.alloc _).alloc _ = w2 at *
 go_wp2
 go_loopw [6] (fun iv wr => ∃ i : Nat, iv = .int .i64 i ∧ i ≤ k.fs.length ∧ Below w2.heap.size w2 wr ∧ fldV k.fs n = fldV (k.fs.drop i) n) (fun iv _ => k.fs.length - (intOf iv).toNat)
 case atStart => exact ⟨0, by go_num, Nat.zero_le _, Below.refl _ _, rfl⟩
 case round =>
  obtain ⟨i, rfl, hil, hbw, hlo⟩ := hrel
  have Hlo := hide hlo
  clear hlo
  have b0w := b2.trans (hbw.mono b2.size)
  have c2' := (hbw.cell (p := ⟨w.heap.size, 2, none⟩) (by show w.heap.size < _; omega)).trans c2
  have hqw := kept_of_below hbw hq
  have r0' : wr.cell? ⟨w.heap.size + 1, 0, none⟩ = some (.int .i64 0) := lc_ hqw rfl
  have r1' : wr.cell? ⟨w.heap.size + 1, 1, none⟩ = some (.int .i64 0) := lc_ hqw rfl
  have r2' : wr.cell? ⟨w.heap.size + 1, 2, none⟩ = some (.string ⟨#[]⟩) := lc_ hqw rfl
  have fz0' := Lib.frozen_of_heap hqw 0
  have fz1' := Lib.frozen_of_heap hqw 1
  have fz2' := Lib.frozen_of_heap hqw 2
  have Hqw := hide hqw
  clear hqw
  by_cases hlt : i < k.fs.length
  ·have i0 : (0 : Int) ≤ (i : Int) := by omega
   have i1 : (i : Int) < (k.fs.length : Int) := by omega
   obtain ⟨g, off, rfl, hg, ⟨a0, a1, a2, a3⟩⟩ := (unhide HR).get b0w hlt
   have HD := hide (fldV_drop k.fs n i hlt)
   generalize k.fs[i] = f at *
   by_cases he : f.nm = n
   ·have hd : (f.nm.toList == n.toList) = true := by rw [he]; exact beq_self_eq_true _
    have HE := hide (show FV = .tuple #[.agg #[.int .i64 f.k, .int .i64 f.o, .string f.tn], .bool true] by rw [unhide HFV, unhide Hlo, unhide HD, if_pos he])
    clear he
    have hb7 := ((b0w.setCell (p := ⟨w.heap.size + 1, 0, none⟩) (by show w.heap.size ≤ w.heap.size + 1; omega) (.int .i64 f.k)).setCell (p := ⟨w.heap.size + 1, 1, none⟩) (by show w.heap.size ≤ w.heap.size + 1; omega) (.int .i64 f.o)).setCell (p := ⟨w.heap.size + 1, 2, none⟩) (by show w.heap.size ≤ w.heap.size + 1; omega) (.string f.tn)
    have q7 := heap_setCell_same _ (w.heap.size + 1) 2 _ _ (.string f.tn) (heap_setCell_same _ (w.heap.size + 1) 1 _ _ (.int .i64 f.o) (heap_setCell_same wr (w.heap.size + 1) 0 _ _ (.int .i64 f.k) (unhide Hqw)))
    have Hq7 := hide (And.intro q7 hb7)
    clear q7 hb7
    go_wp2
    obtain ⟨q7, hb7⟩ := unhide Hq7
    obtain ⟨d0, d1, d2⟩ := bl3_ q7
    generalize ((wr.setCell _ _).setCell _ _).setCell _ _ = w7 at *
    exact bodyPost_ret (v := .tuple #[.agg #[.int .i64 f.k, .int .i64 f.o, .string f.tn], .bool true]) (by simp [results, Try.results57, go_sem, d0, d1, d2]) rfl ⟨by rw [unhide HE], hb7⟩
   ·have hd : (f.nm.toList == n.toList) = false := bytes_ne he
    have HD := hide ((unhide HD).trans (if_neg he))
    clear he
    go_wp2
    go_roundw
    case rel => exact ⟨i + 1, by go_num, by omega, hbw, (unhide Hlo).trans (unhide HD)⟩
    case measure =>
     simp only [intOf]
     omega
  ·have i1 : ¬ (i : Int) < (k.fs.length : Int) := by omega
   have HE := hide (show FV = .tuple #[.agg #[.int .i64 0, .int .i64 0, .string ⟨#[]⟩], .bool false] by rw [unhide HFV, unhide Hlo, List.drop_eq_nil_of_le (by omega)]; rfl)
   have hb7 := ((b0w.setCell (p := ⟨w.heap.size + 1, 0, none⟩) (by show w.heap.size ≤ w.heap.size + 1; omega) (.int .i64 0)).setCell (p := ⟨w.heap.size + 1, 1, none⟩) (by show w.heap.size ≤ w.heap.size + 1; omega) (.int .i64 0)).setCell (p := ⟨w.heap.size + 1, 2, none⟩) (by show w.heap.size ≤ w.heap.size + 1; omega) (.string ⟨#[]⟩)
   have q7 := heap_setCell_same _ (w.heap.size + 1) 2 _ _ (.string ⟨#[]⟩) (heap_setCell_same _ (w.heap.size + 1) 1 _ _ (.int .i64 0) (heap_setCell_same wr (w.heap.size + 1) 0 _ _ (.int .i64 0) (unhide Hqw)))
   have Hq7 := hide (And.intro q7 hb7)
   clear q7 hb7
   go_wp2
   obtain ⟨q7, hb7⟩ := unhide Hq7
   obtain ⟨d0, d1, d2⟩ := bl3_ q7
   generalize ((wr.setCell _ _).setCell _ _).setCell _ _ = w7 at *
   exact bodyPost_ret (v := .tuple #[.agg #[.int .i64 0, .int .i64 0, .string ⟨#[]⟩], .bool false]) (by simp [results, Try.results57, go_sem, d0, d1, d2]) rfl ⟨by rw [unhide HE], hb7⟩
set_option maxHeartbeats 2000000 in
set_option maxRecDepth 1000000 in
theorem mField_any (k : KP) (x : N3) (n : ByteArray) (w : World) (hl : k.fs.length ≤ 281474976710656) (hk : IsK w x k) :
  Calls Try.prog 71 #[x.val, .string n] w fun e w' => e = .returned (fldV k.fs n) ∧ Below w.heap.size w w' := by
 obtain ⟨xn, xao, xal, xac, xbo, xbl, xbc⟩ := x
 obtain ⟨k1, k2, k3, k4, k5⟩ := hk
 clear k1 k2 k3
 simp only at k4 k5
 subst k4
 unfold N3.val
 simp only
 have HR := hide k5
 clear k5
 have b2 := blw2 w (.cells #[.string xn, .slice xao xal xac, .slice xbo k.fs.length xbc] 80) (.cells #[.int .i64 0, .int .i64 0, .string ⟨#[]⟩] 54)
 have hbx : ((w.alloc (.cells #[.string xn, .slice xao xal xac, .slice xbo k.fs.length xbc] 80)).alloc (.cells #[.int .i64 0, .int .i64 0, .string ⟨#[]⟩] 54)).heap[w.heap.size]? = some (.cells #[.string xn, .slice xao xal xac, .slice xbo k.fs.length xbc] 80 (0, 0)) := by
  rw [Below.heap_alloc _ _ _ (by simp)]
  exact alloc_heap _ _
 have hq : ((w.alloc (.cells #[.string xn, .slice xao xal xac, .slice xbo k.fs.length xbc] 80)).alloc (.cells #[.int .i64 0, .int .i64 0, .string ⟨#[]⟩] 54)).heap[w.heap.size + 1]? = some (.cells #[.int .i64 0, .int .i64 0, .string ⟨#[]⟩] 54 (0, 0)) := by
  have := alloc_heap (w.alloc (.cells #[.string xn, .slice xao xal xac, .slice xbo k.fs.length xbc] 80)) (.cells #[.int .i64 0, .int .i64 0, .string ⟨#[]⟩] 54)
  simpa using this
 have z2 : w.heap.size + 2 ≤ ((w.alloc (.cells #[.string xn, .slice xao xal xac, .slice xbo k.fs.length xbc] 80)).alloc (.cells #[.int .i64 0, .int .i64 0, .string ⟨#[]⟩] 54)).heap.size := by simp
 have c2 : ((w.alloc (.cells #[.string xn, .slice xao xal xac, .slice xbo k.fs.length xbc] 80)).alloc (.cells #[.int .i64 0, .int .i64 0, .string ⟨#[]⟩] 54)).cell? ⟨w.heap.size, 2, none⟩ = some (.slice xbo k.fs.length xbc) := lc_ hbx rfl
 obtain ⟨FV, hFV⟩ : ∃ FV, FV = fldV k.fs n := ⟨_, rfl⟩
 rw [← hFV]
 have HFV := hide hFV
 clear hFV
 go_enter Try.func71, Try.ntmps71
 go_wp2_with fail
 generalize (w.alloc _).alloc _ = w2 at *
 go_wp2
 go_loopw [11] (fun iv wr => ∃ i : Nat, iv = .int .i64 i ∧ i ≤ k.fs.length ∧ Below w2.heap.size w2 wr ∧ fldV k.fs n = fldV (k.fs.drop i) n) (fun iv _ => k.fs.length - (intOf iv).toNat)
 case atStart => exact ⟨0, by go_num, Nat.zero_le _, Below.refl _ _, rfl⟩
 case round =>
  obtain ⟨i, rfl, hil, hbw, hlo⟩ := hrel
  have Hlo := hide hlo
  clear hlo
  have b0w := b2.trans (hbw.mono b2.size)
  have c2' := (hbw.cell (p := ⟨w.heap.size, 2, none⟩) (by show w.heap.size < _; omega)).trans c2
  have hqw := kept_of_below hbw hq
  have r0' : wr.cell? ⟨w.heap.size + 1, 0, none⟩ = some (.int .i64 0) := lc_ hqw rfl
  have r1' : wr.cell? ⟨w.heap.size + 1, 1, none⟩ = some (.int .i64 0) := lc_ hqw rfl
  have r2' : wr.cell? ⟨w.heap.size + 1, 2, none⟩ = some (.string ⟨#[]⟩) := lc_ hqw rfl
  have fz0' := Lib.frozen_of_heap hqw 0
  have fz1' := Lib.frozen_of_heap hqw 1
  have fz2' := Lib.frozen_of_heap hqw 2
  have Hqw := hide hqw
  clear hqw
  by_cases hlt : i < k.fs.length
  ·have i0 : (0 : Int) ≤ (i : Int) := by omega
   have i1 : (i : Int) < (k.fs.length : Int) := by omega
   obtain ⟨g, off, rfl, hg, ⟨a0, a1, a2, a3⟩⟩ := (unhide HR).get b0w hlt
   have HD := hide (fldV_drop k.fs n i hlt)
   generalize k.fs[i] = f at *
   have bF := blw1 wr (.cells #[.string f.nm, .int .i64 f.k, .int .i64 f.o, .string f.tn] 109)
   have HFb := alloc_heap wr (.cells #[.string f.nm, .int .i64 f.k, .int .i64 f.o, .string f.tn] 109)
   obtain ⟨f0, f1, f2, f3⟩ := bl4_ HFb
   have Hq2 := hide (kept_of_below bF (unhide Hqw))
   have b0F := b0w.trans (bF.mono b0w.size)
   have s0' : (wr.alloc (.cells #[.string f.nm, .int .i64 f.k, .int .i64 f.o, .string f.tn] 109)).cell? ⟨w.heap.size + 1, 0, none⟩ = some (.int .i64 0) := by rw [Lib.cell_of_heap (unhide Hq2)]; rfl
   have s1' : (wr.alloc (.cells #[.string f.nm, .int .i64 f.k, .int .i64 f.o, .string f.tn] 109)).cell? ⟨w.heap.size + 1, 1, none⟩ = some (.int .i64 0) := by rw [Lib.cell_of_heap (unhide Hq2)]; rfl
   have s2' : (wr.alloc (.cells #[.string f.nm, .int .i64 f.k, .int .i64 f.o, .string f.tn] 109)).cell? ⟨w.heap.size + 1, 2, none⟩ = some (.string ⟨#[]⟩) := by rw [Lib.cell_of_heap (unhide Hq2)]; rfl
   have sz0' : (wr.alloc (.cells #[.string f.nm, .int .i64 f.k, .int .i64 f.o, .string f.tn] 109)).frozen? ⟨w.heap.size + 1, 0, none⟩ = false := Lib.frozen_of_heap (unhide Hq2) 0
   have sz1' : (wr.alloc (.cells #[.string f.nm, .int .i64 f.k, .int .i64 f.o, .string f.tn] 109)).frozen? ⟨w.heap.size + 1, 1, none⟩ = false := Lib.frozen_of_heap (unhide Hq2) 1
   have sz2' : (wr.alloc (.cells #[.string f.nm, .int .i64 f.k, .int .i64 f.o, .string f.tn] 109)).frozen? ⟨w.heap.size + 1, 2, none⟩ = false := Lib.frozen_of_heap (unhide Hq2) 2
   clear HFb
   go_upto_region 4 with fail
   generalize wr.alloc _ = wF at *
   by_cases he : f.nm = n
   ·have hd : (f.nm.toList == n.toList) = true := by rw [he]; exact beq_self_eq_true _
    have HE := hide (show FV = .tuple #[.agg #[.int .i64 f.k, .int .i64 f.o, .string f.tn], .bool true] by rw [unhide HFV, unhide Hlo, unhide HD, if_pos he])
    clear he
    have hb7 := ((b0F.setCell (p := ⟨w.heap.size + 1, 0, none⟩) (by show w.heap.size ≤ w.heap.size + 1; omega) (.int .i64 f.k)).setCell (p := ⟨w.heap.size + 1, 1, none⟩) (by show w.heap.size ≤ w.heap.size + 1; omega) (.int .i64 f.o)).setCell (p := ⟨w.heap.size + 1, 2, none⟩) (by show w.heap.size ≤ w.heap.size + 1; omega) (.string f.tn)
    have q7 := heap_setCell_same _ (w.heap.size + 1) 2 _ _ (.string f.tn) (heap_setCell_same _ (w.heap.size + 1) 1 _ _ (.int .i64 f.o) (heap_setCell_same wF (w.heap.size + 1) 0 _ _ (.int .i64 f.k) (unhide Hq2)))
    have Hq7 := hide (And.intro q7 hb7)
    clear q7 hb7
    go_wp2
    obtain ⟨q7, hb7⟩ := unhide Hq7
    obtain ⟨d0, d1, d2⟩ := bl3_ q7
    generalize ((wF.setCell _ _).setCell _ _).setCell _ _ = w7 at *
    exact bodyPost_ret (v := .tuple #[.agg #[.int .i64 f.k, .int .i64 f.o, .string f.tn], .bool true]) (by simp [results, Try.results71, go_sem, d0, d1, d2]) rfl ⟨by rw [unhide HE], hb7⟩
   ·have hd : (f.nm.toList == n.toList) = false := bytes_ne he
    have HD := hide ((unhide HD).trans (if_neg he))
    clear he
    go_wp2
    go_roundw
    case rel => exact ⟨i + 1, by go_num, by omega, hbw.trans (bF.mono hbw.size), (unhide Hlo).trans (unhide HD)⟩
    case measure =>
     simp only [intOf]
     omega
  ·have i1 : ¬ (i : Int) < (k.fs.length : Int) := by omega
   have HE := hide (show FV = .tuple #[.agg #[.int .i64 0, .int .i64 0, .string ⟨#[]⟩], .bool false] by rw [unhide HFV, unhide Hlo, List.drop_eq_nil_of_le (by omega)]; rfl)
   have hb7 := ((b0w.setCell (p := ⟨w.heap.size + 1, 0, none⟩) (by show w.heap.size ≤ w.heap.size + 1; omega) (.int .i64 0)).setCell (p := ⟨w.heap.size + 1, 1, none⟩) (by show w.heap.size ≤ w.heap.size + 1; omega) (.int .i64 0)).setCell (p := ⟨w.heap.size + 1, 2, none⟩) (by show w.heap.size ≤ w.heap.size + 1; omega) (.string ⟨#[]⟩)
   have q7 := heap_setCell_same _ (w.heap.size + 1) 2 _ _ (.string ⟨#[]⟩) (heap_setCell_same _ (w.heap.size + 1) 1 _ _ (.int .i64 0) (heap_setCell_same wr (w.heap.size + 1) 0 _ _ (.int .i64 0) (unhide Hqw)))
   have Hq7 := hide (And.intro q7 hb7)
   clear q7 hb7
   go_wp2
   obtain ⟨q7, hb7⟩ := unhide Hq7
   obtain ⟨d0, d1, d2⟩ := bl3_ q7
   generalize ((wr.setCell _ _).setCell _ _).setCell _ _ = w7 at *
   exact bodyPost_ret (v := .tuple #[.agg #[.int .i64 0, .int .i64 0, .string ⟨#[]⟩], .bool false]) (by simp [results, Try.results71, go_sem, d0, d1, d2]) rfl ⟨by rw [unhide HE], hb7⟩
end Go.Proofs.Ytagnbpobcijakaa

namespace Go.Proofs.Ytagnbpobcijakaa
open Go.RowKit Go.Sort

structure TKs (w : World) (ao : Option Addr) (ks : List KP) : Prop where
 mk ::
 ex : ∃ xs : List N3, xs.length = ks.length ∧ RowG w ao 3 (xs.map N3.cells) ∧ ∀ j (h : j < xs.length) (h' : j < ks.length), IsKT w xs[j] ks[j]
structure TAs (w : World) (ao : Option Addr) (ks : List AP) : Prop where
 mk ::
 ex : ∃ xs : List N3, xs.length = ks.length ∧ RowG w ao 3 (xs.map N3.cells) ∧ ∀ j (h : j < xs.length) (h' : j < ks.length), IsAT w xs[j] ks[j]
theorem TKs.get {w wr : World} {ao : Option Addr} {ks : List KP} (h : TKs w ao ks) (hbw : Below w.heap.size w wr) {j : Nat} (hj : j < ks.length) : ∃ x b off, ao = some ⟨b, off, none⟩ ∧ b < w.heap.size ∧ AtN3 wr b (off + j * 3) x ∧ IsKT wr x ks[j] := by
 obtain ⟨xs, h1, h2, h3⟩ := h.ex
 have hx : j < xs.length := by omega
 obtain ⟨b, off, e, hb, hc⟩ := rowG_at h2 hbw hx
 exact ⟨xs[j], b, off, e, hb, AtN3.of hc, (h3 j hx hj).turn (.of_below hbw)⟩
theorem TAs.get {w wr : World} {ao : Option Addr} {ks : List AP} (h : TAs w ao ks) (hbw : Below w.heap.size w wr) {j : Nat} (hj : j < ks.length) : ∃ x b off, ao = some ⟨b, off, none⟩ ∧ b < w.heap.size ∧ AtN3 wr b (off + j * 3) x ∧ IsAT wr x ks[j] := by
 obtain ⟨xs, h1, h2, h3⟩ := h.ex
 have hx : j < xs.length := by omega
 obtain ⟨b, off, e, hb, hc⟩ := rowG_at h2 hbw hx
 exact ⟨xs[j], b, off, e, hb, AtN3.of hc, (h3 j hx hj).turn (.of_below hbw)⟩
theorem IsST.ex2 {w : World} {v : Value} {s : SP} (h : IsST w v s) : ∃ ko kc ao ac, v = .agg #[.slice ko s.ks.length kc, .slice ao s.ac.length ac] ∧ TKs w ko s.ks ∧ TAs w ao s.ac := by
 obtain ⟨ko, kc, ao, ac, xk, xs, e, h1, h2, h3, h4, h5, h6⟩ := h.ex
 exact ⟨ko, kc, ao, ac, e, ⟨⟨xk, h1, h2, h3⟩⟩, ⟨⟨xs, h4, h5, h6⟩⟩⟩
/-- What is found of a name: nothing, or the first one. -/
def FoundKT (s : SP) (n : ByteArray) (e : Ending) (w' : World) : Prop := (n ∉ s.names ∧ e = .returned (.tuple #[zN3.val, .bool false])) ∨ ∃ (i : Nat) (hi : i < s.ks.length) (x : N3), Place s.names n i ∧ IsKT w' x s.ks[i] ∧ e = .returned (.tuple #[x.val, .bool true])
set_option maxHeartbeats 2000000 in
set_option maxRecDepth 1000000 in
theorem rKindT_any (s : SP) (v : Value) (n : ByteArray) (w : World) (hl : s.ks.length ≤ 281474976710656) (hs : IsST w v s) :
  Calls Try.prog 40 #[v, .string n] w fun e w' => FoundKT s n e w' ∧ Below w.heap.size w w' := by
 obtain ⟨ko, kc, ao, ac, rfl, hk, ha⟩ := hs.ex2
 have b2 := blw2 w (.cells #[.slice ko s.ks.length kc, .slice ao s.ac.length ac] 33) (.cells #[.string ⟨#[]⟩, .slice none 0 0, .slice none 0 0] 80)
 have HR := hide hk
 have HL := hide (show ∀ j (h : j < s.ks.length), s.names[j]'(by simpa [SP.names] using h) = s.ks[j].nm from fun j h => by simp [SP.names])
 have c0 : ((w.alloc (.cells #[.slice ko s.ks.length kc, .slice ao s.ac.length ac] 33)).alloc (.cells #[.string ⟨#[]⟩, .slice none 0 0, .slice none 0 0] 80)).cell? ⟨w.heap.size, 0, none⟩ = some (.slice ko s.ks.length kc) := by simp
 have hq : ((w.alloc (.cells #[.slice ko s.ks.length kc, .slice ao s.ac.length ac] 33)).alloc (.cells #[.string ⟨#[]⟩, .slice none 0 0, .slice none 0 0] 80)).heap[w.heap.size + 1]? = some (.cells #[.string ⟨#[]⟩, .slice none 0 0, .slice none 0 0] 80 (0, 0)) := by
  have := alloc_heap (w.alloc (.cells #[.slice ko s.ks.length kc, .slice ao s.ac.length ac] 33)) (.cells #[.string ⟨#[]⟩, .slice none 0 0, .slice none 0 0] 80)
  simpa using this
 have z2 : ((w.alloc (.cells #[.slice ko s.ks.length kc, .slice ao s.ac.length ac] 33)).alloc (.cells #[.string ⟨#[]⟩, .slice none 0 0, .slice none 0 0] 80)).heap.size = w.heap.size + 2 := by simp
 clear hs hk ha
 go_enter Try.func40, Try.ntmps40
 go_wp2_with fail
 generalize (w.alloc _).alloc _ = w2 at *
 go_wp2
 go_loopw [6] (fun iv wr => ∃ i : Nat, iv = .int .i64 i ∧ i ≤ s.ks.length ∧ Below w2.heap.size w2 wr ∧ ∀ j (hj : j < s.ks.length), j < i → (s.ks[j]).nm ≠ n) (fun iv _ => s.ks.length - (intOf iv).toNat)
 case atStart => exact ⟨0, by go_num, Nat.zero_le _, Below.refl _ _, fun j _ h => absurd h (Nat.not_lt_zero _)⟩
 case round =>
  obtain ⟨i, rfl, hil, hbw, hlo⟩ := hrel
  have Hlo := hide hlo
  clear hlo
  have b0w := b2.trans (hbw.mono b2.size)
  have c0' := (hbw.cell (p := ⟨w.heap.size, 0, none⟩) (by show w.heap.size < _; omega)).trans c0
  have hqw := kept_of_below hbw hq
  have r0' : wr.cell? ⟨w.heap.size + 1, 0, none⟩ = some (.string ⟨#[]⟩) := lc_ hqw rfl
  have r1' : wr.cell? ⟨w.heap.size + 1, 1, none⟩ = some (.slice none 0 0) := lc_ hqw rfl
  have r2' : wr.cell? ⟨w.heap.size + 1, 2, none⟩ = some (.slice none 0 0) := lc_ hqw rfl
  have fz0' := Lib.frozen_of_heap hqw 0
  have fz1' := Lib.frozen_of_heap hqw 1
  have fz2' := Lib.frozen_of_heap hqw 2
  have Hqw := hide hqw
  clear hqw
  by_cases hlt : i < s.ks.length
  ·have i0 : (0 : Int) ≤ (i : Int) := by omega
   have i1 : (i : Int) < (s.ks.length : Int) := by omega
   obtain ⟨x, g, off, rfl, hg, hx, hk⟩ := (unhide HR).get (Below.refl _ w) hlt
   obtain ⟨xn, xao, xal, xac, xbo, xbl, xbc⟩ := x
   obtain ⟨a0, a1, a2⟩ := hx.below b0w hg
   simp only at a0 a1 a2
   have Hk := hide hk
   have Hn := hide hk.is.nm
   clear hk
   by_cases he : xn = n
   ·subst he
    have hb7 := ((b0w.setCell (p := ⟨w.heap.size + 1, 0, none⟩) (by show w.heap.size ≤ w.heap.size + 1; omega) (.string xn)).setCell (p := ⟨w.heap.size + 1, 1, none⟩) (by show w.heap.size ≤ w.heap.size + 1; omega) (.slice xao xal xac)).setCell (p := ⟨w.heap.size + 1, 2, none⟩) (by show w.heap.size ≤ w.heap.size + 1; omega) (.slice xbo xbl xbc)
    have q7 := heap_setCell_same _ (w.heap.size + 1) 2 _ _ (.slice xbo xbl xbc) (heap_setCell_same _ (w.heap.size + 1) 1 _ _ (.slice xao xal xac) (heap_setCell_same wr (w.heap.size + 1) 0 _ _ (.string xn) (unhide Hqw)))
    have Hq7 := hide q7
    clear q7
    go_wp2
    have d0 : (((wr.setCell ⟨w.heap.size + 1, 0, none⟩ (.string xn)).setCell ⟨w.heap.size + 1, 1, none⟩ (.slice xao xal xac)).setCell ⟨w.heap.size + 1, 2, none⟩ (.slice xbo xbl xbc)).cell? ⟨w.heap.size + 1, 0, none⟩ = some (.string xn) := by rw [Lib.cell_of_heap (unhide Hq7)]; rfl
    have d1 : (((wr.setCell ⟨w.heap.size + 1, 0, none⟩ (.string xn)).setCell ⟨w.heap.size + 1, 1, none⟩ (.slice xao xal xac)).setCell ⟨w.heap.size + 1, 2, none⟩ (.slice xbo xbl xbc)).cell? ⟨w.heap.size + 1, 1, none⟩ = some (.slice xao xal xac) := by rw [Lib.cell_of_heap (unhide Hq7)]; rfl
    have d2 : (((wr.setCell ⟨w.heap.size + 1, 0, none⟩ (.string xn)).setCell ⟨w.heap.size + 1, 1, none⟩ (.slice xao xal xac)).setCell ⟨w.heap.size + 1, 2, none⟩ (.slice xbo xbl xbc)).cell? ⟨w.heap.size + 1, 2, none⟩ = some (.slice xbo xbl xbc) := by rw [Lib.cell_of_heap (unhide Hq7)]; rfl
    generalize ((wr.setCell _ _).setCell _ _).setCell _ _ = w7 at *
    refine bodyPost_ret (v := .tuple #[.agg #[.string xn, .slice xao xal xac, .slice xbo xbl xbc], .bool true]) (by simp [results, Try.results40, go_sem, d0, d1, d2]) rfl ⟨.inr ⟨i, hlt, ⟨xn, xao, xal, xac, xbo, xbl, xbc⟩, .inr ⟨i, rfl, by simpa [SP.names] using hlt, ?_, fun j hj hji => ?_⟩, (unhide Hk).turn (.of_below hb7), rfl⟩, hb7⟩
    ·rw [unhide HL i hlt]
     exact (unhide Hn).symm
    ·rw [unhide HL j (by simpa [SP.names] using hj)]
     exact unhide Hlo j (by simpa [SP.names] using hj) hji
   ·have hd : (xn.toList == n.toList) = false := bytes_ne he
    have He := hide he
    clear he
    go_wp2
    go_roundw
    case rel =>
     refine ⟨i + 1, by go_num, by omega, hbw, fun j hj hji => ?_⟩
     by_cases e : j = i
     ·subst e
      exact fun h => unhide He ((unhide Hn).trans h)
     ·exact unhide Hlo j hj (by omega)
    case measure =>
     simp only [intOf]
     omega
  ·have i1 : ¬ (i : Int) < (s.ks.length : Int) := by omega
   have hb7 := ((b0w.setCell (p := ⟨w.heap.size + 1, 0, none⟩) (by show w.heap.size ≤ w.heap.size + 1; omega) (.string ⟨#[]⟩)).setCell (p := ⟨w.heap.size + 1, 1, none⟩) (by show w.heap.size ≤ w.heap.size + 1; omega) (.slice none 0 0)).setCell (p := ⟨w.heap.size + 1, 2, none⟩) (by show w.heap.size ≤ w.heap.size + 1; omega) (.slice none 0 0)
   have q7 := heap_setCell_same _ (w.heap.size + 1) 2 _ _ (.slice none 0 0) (heap_setCell_same _ (w.heap.size + 1) 1 _ _ (.slice none 0 0) (heap_setCell_same wr (w.heap.size + 1) 0 _ _ (.string ⟨#[]⟩) (unhide Hqw)))
   have Hq7 := hide q7
   clear q7
   go_wp2
   have d0 : (((wr.setCell ⟨w.heap.size + 1, 0, none⟩ (.string ⟨#[]⟩)).setCell ⟨w.heap.size + 1, 1, none⟩ (.slice none 0 0)).setCell ⟨w.heap.size + 1, 2, none⟩ (.slice none 0 0)).cell? ⟨w.heap.size + 1, 0, none⟩ = some (.string ⟨#[]⟩) := by rw [Lib.cell_of_heap (unhide Hq7)]; rfl
   have d1 : (((wr.setCell ⟨w.heap.size + 1, 0, none⟩ (.string ⟨#[]⟩)).setCell ⟨w.heap.size + 1, 1, none⟩ (.slice none 0 0)).setCell ⟨w.heap.size + 1, 2, none⟩ (.slice none 0 0)).cell? ⟨w.heap.size + 1, 1, none⟩ = some (.slice none 0 0) := by rw [Lib.cell_of_heap (unhide Hq7)]; rfl
   have d2 : (((wr.setCell ⟨w.heap.size + 1, 0, none⟩ (.string ⟨#[]⟩)).setCell ⟨w.heap.size + 1, 1, none⟩ (.slice none 0 0)).setCell ⟨w.heap.size + 1, 2, none⟩ (.slice none 0 0)).cell? ⟨w.heap.size + 1, 2, none⟩ = some (.slice none 0 0) := by rw [Lib.cell_of_heap (unhide Hq7)]; rfl
   generalize ((wr.setCell _ _).setCell _ _).setCell _ _ = w7 at *
   refine bodyPost_ret (v := .tuple #[.agg #[.string ⟨#[]⟩, .slice none 0 0, .slice none 0 0], .bool false]) (by simp [results, Try.results40, go_sem, d0, d1, d2]) rfl ⟨.inl ⟨fun h => ?_, rfl⟩, hb7⟩
   obtain ⟨j, hj, e⟩ := List.getElem_of_mem h
   have hj' : j < s.ks.length := by simpa [SP.names] using hj
   rw [unhide HL j hj'] at e
   exact unhide Hlo j hj' (by omega) e

/-- What is found of a name: nothing, or the first one. -/
def FoundAT (s : SP) (n : ByteArray) (e : Ending) (w' : World) : Prop := (n ∉ s.acts ∧ e = .returned (.tuple #[zN3.val, .bool false])) ∨ ∃ (i : Nat) (hi : i < s.ac.length) (x : N3), Place s.acts n i ∧ IsAT w' x s.ac[i] ∧ e = .returned (.tuple #[x.val, .bool true])
end Go.Proofs.Ytagnbpobcijakaa

namespace Go.Proofs.Ytagnbpobcijakaa
open Go.RowKit Go.Sort

/-- A row of its own, behind a place. -/
structure RB (w : World) (b sz : Nat) (T : TypeId) (L : List (List Value)) : Prop where
 row : RowG w (some ⟨b, 0, none⟩) sz L
 ty : ∃ cur fz, w.heap[b]? = some (.cells cur T fz)
theorem RB.below {w w' : World} {b sz : Nat} {T : TypeId} {L : List (List Value)} (h : RB w b sz T L) (hb : Below w.heap.size w w') : RB w' b sz T L := ⟨h.row.below hb, by obtain ⟨cur, fz, e⟩ := h.ty; exact ⟨cur, fz, kept_of_below hb e⟩⟩
def RowB (B : Nat) (w : World) (v : Value) (n sz : Nat) (T : TypeId) (L : List (List Value)) : Prop := ∃ b, v = .slice (some ⟨b, 0, none⟩) n n ∧ B ≤ b ∧ RB w b sz T L
def KcB (B : Nat) (w : World) (v : Value) (nm : ByteArray) (n1 : Nat) (L1 : List (List Value)) (n2 sz2 : Nat) (T2 : TypeId) (L2 : List (List Value)) : Prop := ∃ p1 p2, v = .agg #[.string nm, .slice (some ⟨p1, 0, none⟩) n1 n1, .slice (some ⟨p2, 0, none⟩) n2 n2] ∧ B ≤ p1 ∧ RB w p1 1 9 L1 ∧ B ≤ p2 ∧ RB w p2 sz2 T2 L2
/-- A row behind a place stays while something ahead of it is written. -/
theorem rowG_set3 {w : World} {B R b n : Nat} {T : TypeId} {L : List (List Value)} (x y z : Value) (hR : R < B) (hb : B ≤ b) (h : RB w b n T L) : RB (((w.setCell ⟨R, 0, none⟩ x).setCell ⟨R, 1, none⟩ y).setCell ⟨R, 2, none⟩ z) b n T L := by
 have hne : b ≠ R := by omega
 have hk := (Below.heap_setCell _ ⟨R, 2, none⟩ z b hne).trans ((Below.heap_setCell _ ⟨R, 1, none⟩ y b hne).trans (Below.heap_setCell w ⟨R, 0, none⟩ x b hne))
 refine ⟨RowG.turn h.row (by simp) fun ad e _ => ?_, ?_⟩
 ·injection e with e
  subst e
  exact hk
 ·obtain ⟨cur, fz, e⟩ := h.ty
  exact ⟨cur, fz, hk.trans e⟩
def kcSp (K : Nat) (nm : ByteArray) (p0 r0 : Value) (B n1 : Nat) (L1 : List (List Value)) (n2 sz2 : Nat) (T2 : TypeId) (L2 : List (List Value)) : Nat → Value → World → Prop
 | 0, v, _ => v = .pointer (some ⟨K, 0, none⟩)
 | 1, v, _ => v = .string nm
 | 2, v, _ => v = .pointer (some ⟨K, 1, none⟩)
 | 3, v, _ => v = p0
 | 4, v, w => RowB B w v n1 1 9 L1
 | 5, v, _ => v = .pointer (some ⟨K, 2, none⟩)
 | 6, v, _ => v = r0
 | 7, v, w => RowB B w v n2 sz2 T2 L2
 | 8, v, w => KcB B w v nm n1 L1 n2 sz2 T2 L2
 | 9, _, _ => True
 | 10, v, _ => v = .bool true
 | _ + 11, _, _ => True
theorem kcSp_up {K : Nat} {nm : ByteArray} {p0 r0 : Value} {B n1 : Nat} {L1 : List (List Value)} {n2 sz2 : Nat} {T2 : TypeId} {L2 : List (List Value)} {w w' : World} (hb : Below w.heap.size w w') : ∀ q u, kcSp K nm p0 r0 B n1 L1 n2 sz2 T2 L2 q u w → kcSp K nm p0 r0 B n1 L1 n2 sz2 T2 L2 q u w'
 | 0, _, h | 1, _, h | 2, _, h | 3, _, h | 5, _, h | 6, _, h | 9, _, h | 10, _, h => h
 | 4, _, ⟨b, e, h1, h2⟩ => ⟨b, e, h1, h2.below hb⟩
 | 7, _, ⟨b, e, h1, h2⟩ => ⟨b, e, h1, h2.below hb⟩
 | 8, _, ⟨p1, p2, e, h1, h2, h3, h4⟩ => ⟨p1, p2, e, h1, h2.below hb, h3, h4.below hb⟩
 | _ + 11, _, _ => trivial
theorem kcSp_set {K : Nat} {nm : ByteArray} {p0 r0 : Value} {B n1 : Nat} {L1 : List (List Value)} {n2 sz2 : Nat} {T2 : TypeId} {L2 : List (List Value)} {w : World} {R : Nat} (x y z : Value) (hR : R < B) : ∀ q u, kcSp K nm p0 r0 B n1 L1 n2 sz2 T2 L2 q u w → kcSp K nm p0 r0 B n1 L1 n2 sz2 T2 L2 q u (((w.setCell ⟨R, 0, none⟩ x).setCell ⟨R, 1, none⟩ y).setCell ⟨R, 2, none⟩ z)
 | 0, _, h | 1, _, h | 2, _, h | 3, _, h | 5, _, h | 6, _, h | 9, _, h | 10, _, h => h
 | 4, _, ⟨b, e, h1, h2⟩ => ⟨b, e, h1, rowG_set3 x y z hR h1 h2⟩
 | 7, _, ⟨b, e, h1, h2⟩ => ⟨b, e, h1, rowG_set3 x y z hR h1 h2⟩
 | 8, _, ⟨p1, p2, e, h1, h2, h3, h4⟩ => ⟨p1, p2, e, h1, rowG_set3 x y z hR h1 h2, h3, rowG_set3 x y z hR h3 h4⟩
 | _ + 11, _, _ => trivial
/-- While an answer is made and laid into its place. -/
structure CR (w w5 : World) (R : Nat) (T : TypeId) (nm : ByteArray) (n1 : Nat) (L1 : List (List Value)) (n2 sz2 : Nat) (T2 : TypeId) (L2 : List (List Value)) (L : Nat → Bool) (a' : Act) (w' : World) : Prop where
 below : Below w.heap.size w w'
 size : w5.heap.size ≤ w'.heap.size
 keep : ∀ b, b < w5.heap.size → b ≠ R → w'.heap[b]? = w5.heap[b]?
 zero : L 9 = false → w'.heap[R]? = some (.cells #[.string ⟨#[]⟩, .slice none 0 0, .slice none 0 0] T (0, 0))
 full : L 9 = true → ∃ p1 p2, w'.heap[R]? = some (.cells #[.string nm, .slice (some ⟨p1, 0, none⟩) n1 n1, .slice (some ⟨p2, 0, none⟩) n2 n2] T (0, 0)) ∧ w5.heap.size ≤ p1 ∧ RB w' p1 1 9 L1 ∧ w5.heap.size ≤ p2 ∧ RB w' p2 sz2 T2 L2
 s4 : a'.tmps.getD 4 undef = .pointer (some ⟨R, 0, none⟩)
section
variable {w w5 : World} {R : Nat} {T : TypeId} {nm : ByteArray} {n1 : Nat} {L1 : List (List Value)} {n2 sz2 : Nat} {T2 : TypeId} {L2 : List (List Value)}
theorem CR.start (a : Act) (hb : Below w.heap.size w w5) (h : w5.heap[R]? = some (.cells #[.string ⟨#[]⟩, .slice none 0 0, .slice none 0 0] T (0, 0))) (h4 : a.tmps.getD 4 undef = .pointer (some ⟨R, 0, none⟩)) : CR w w5 R T nm n1 L1 n2 sz2 T2 L2 (fun _ => false) a w5.drew :=
 ⟨hb.drew, Nat.le_refl _, fun _ _ _ => rfl, fun _ => h, fun h => (by cases h), h4⟩
theorem CR.step {L : Nat → Bool} {a' : Act} {w' w'' : World} (h : CR w w5 R T nm n1 L1 n2 sz2 T2 L2 L a' w') (hb : Below w'.heap.size w' w'') (i d : Nat) (v : Value) (hi : i ≠ 9) (hd : d ≠ 4) : CR w w5 R T nm n1 L1 n2 sz2 T2 L2 (fun j => decide (j = i) || L j) (a'.put (some d) v) w'' := by
 have e9 : (decide (9 = i) || L 9) = L 9 := by simp [Ne.symm hi]
 have hz := h.size
 refine ⟨h.below.trans (hb.mono h.below.size), Nat.le_trans hz hb.size, fun b y1 y2 => (hb.block b (by omega)).trans (h.keep b y1 y2), fun y => kept_of_below hb (h.zero (e9.symm.trans y)), fun y => ?_, (put_other _ _ _ _ hd).trans h.s4⟩
 obtain ⟨p1, p2, h1, h2, h3, h4, h5⟩ := h.full (e9.symm.trans y)
 exact ⟨p1, p2, kept_of_below hb h1, h2, h3.below hb, h4, h5.below hb⟩
theorem CR.put {L : Nat → Bool} {a' : Act} {w' : World} (h : CR w w5 R T nm n1 L1 n2 sz2 T2 L2 L a' w') (hR : R < w5.heap.size) (hwR : w.heap.size ≤ R) (hL : L 9 = false) {p1 p2 : Nat} (q11 : w5.heap.size ≤ p1) (q12 : RB w' p1 1 9 L1) (q21 : w5.heap.size ≤ p2) (q22 : RB w' p2 sz2 T2 L2) :
  CR w w5 R T nm n1 L1 n2 sz2 T2 L2 (fun j => decide (j = 9) || L j) a' (((w'.setCell ⟨R, 0, none⟩ (.string nm)).setCell ⟨R, 1, none⟩ (.slice (some ⟨p1, 0, none⟩) n1 n1)).setCell ⟨R, 2, none⟩ (.slice (some ⟨p2, 0, none⟩) n2 n2)) ∧ ∀ (K : Nat) (p0 r0 : Value) q u, kcSp K nm p0 r0 w5.heap.size n1 L1 n2 sz2 T2 L2 q u w' → kcSp K nm p0 r0 w5.heap.size n1 L1 n2 sz2 T2 L2 q u (((w'.setCell ⟨R, 0, none⟩ (.string nm)).setCell ⟨R, 1, none⟩ (.slice (some ⟨p1, 0, none⟩) n1 n1)).setCell ⟨R, 2, none⟩ (.slice (some ⟨p2, 0, none⟩) n2 n2)) := by
 have s1 := heap_setCell_same w' R 0 _ _ (.string nm) (h.zero hL)
 have s2 := heap_setCell_same _ R 1 _ _ (.slice (some ⟨p1, 0, none⟩) n1 n1) s1
 have s3 := heap_setCell_same _ R 2 _ _ (.slice (some ⟨p2, 0, none⟩) n2 n2) s2
 refine ⟨⟨((h.below.setCell (p := ⟨R, 0, none⟩) hwR _).setCell (p := ⟨R, 1, none⟩) hwR _).setCell (p := ⟨R, 2, none⟩) hwR _, by have := h.size; simpa using this, fun b y1 y2 => ?_, fun y => ?_, fun _ => ⟨p1, p2, s3, q11, rowG_set3 _ _ _ hR q11 q12, q21, rowG_set3 _ _ _ hR q21 q22⟩, h.s4⟩, fun K p0 r0 => kcSp_set _ _ _ hR⟩
 ·exact ((Below.heap_setCell _ ⟨R, 2, none⟩ _ b y2).trans ((Below.heap_setCell _ ⟨R, 1, none⟩ _ b y2).trans (Below.heap_setCell _ ⟨R, 0, none⟩ _ b y2))).trans (h.keep b y1 y2)
 ·simp at y
end
set_option maxHeartbeats 4000000 in
set_option maxRecDepth 1000000 in
theorem mKind_any (s : SP) (v : Value) (n : ByteArray) (w : World) (hl : s.ks.length ≤ 281474976710656) (hsm : ∀ k ∈ s.ks, k.ps.length ≤ 1048576 ∧ k.fs.length ≤ 1048576) (hs : IsS w v s) :
  Calls Try.prog 52 #[v, .string n] w fun e w' => FoundKT s n e w' ∧ Below w.heap.size w w' := by
 obtain ⟨ko, kc, ao, ac, rfl, hk, ha⟩ := hs.ex
 have b2 := blw2 w (.cells #[.slice ko s.ks.length kc, .slice ao s.ac.length ac] 33) (.cells #[.string ⟨#[]⟩, .slice none 0 0, .slice none 0 0] 80)
 have HR := hide hk
 have hbx : ((w.alloc (.cells #[.slice ko s.ks.length kc, .slice ao s.ac.length ac] 33)).alloc (.cells #[.string ⟨#[]⟩, .slice none 0 0, .slice none 0 0] 80)).heap[w.heap.size]? = some (.cells #[.slice ko s.ks.length kc, .slice ao s.ac.length ac] 33 (0, 0)) := by
  rw [Below.heap_alloc _ _ _ (by simp)]
  exact alloc_heap _ _
 have hq : ((w.alloc (.cells #[.slice ko s.ks.length kc, .slice ao s.ac.length ac] 33)).alloc (.cells #[.string ⟨#[]⟩, .slice none 0 0, .slice none 0 0] 80)).heap[w.heap.size + 1]? = some (.cells #[.string ⟨#[]⟩, .slice none 0 0, .slice none 0 0] 80 (0, 0)) := by
  have := alloc_heap (w.alloc (.cells #[.slice ko s.ks.length kc, .slice ao s.ac.length ac] 33)) (.cells #[.string ⟨#[]⟩, .slice none 0 0, .slice none 0 0] 80)
  simpa using this
 have z2 : w.heap.size + 2 ≤ ((w.alloc (.cells #[.slice ko s.ks.length kc, .slice ao s.ac.length ac] 33)).alloc (.cells #[.string ⟨#[]⟩, .slice none 0 0, .slice none 0 0] 80)).heap.size := by simp
 obtain ⟨c0, c1⟩ := bl2_ hbx
 have C := placeOfKind_any s _ n _ hl (hs.below b2)
 clear hs hk ha
 go_enter Try.func52, Try.ntmps52
 go_wp2_with fail
 generalize (w.alloc _).alloc _ = w2 at *
 refine C.mono ?_
 clear C
 rintro e w3 ⟨z, rfl, hz, b3⟩
 have hbx3 := kept_of_below b3 hbx
 have hq3 := kept_of_below b3 hq
 have z3 := b3.size
 have B3 := b2.trans (b3.mono b2.size)
 clear c0 c1 hbx hq
 rcases hz with ⟨rfl, hno⟩ | ⟨i, rfl, hin, hpl⟩
 ·have r0 : w3.cell? ⟨w.heap.size + 1, 0, none⟩ = some (.string ⟨#[]⟩) := lc_ hq3 rfl
  have r1 : w3.cell? ⟨w.heap.size + 1, 1, none⟩ = some (.slice none 0 0) := lc_ hq3 rfl
  have r2 : w3.cell? ⟨w.heap.size + 1, 2, none⟩ = some (.slice none 0 0) := lc_ hq3 rfl
  have fz := fun o => Lib.frozen_of_heap hq3 o
  have hb7 := ((B3.setCell (p := ⟨w.heap.size + 1, 0, none⟩) (by show w.heap.size ≤ w.heap.size + 1; omega) (.string ⟨#[]⟩)).setCell (p := ⟨w.heap.size + 1, 1, none⟩) (by show w.heap.size ≤ w.heap.size + 1; omega) (.slice none 0 0)).setCell (p := ⟨w.heap.size + 1, 2, none⟩) (by show w.heap.size ≤ w.heap.size + 1; omega) (.slice none 0 0)
  have q7 := heap_setCell_same _ (w.heap.size + 1) 2 _ _ (.slice none 0 0) (heap_setCell_same _ (w.heap.size + 1) 1 _ _ (.slice none 0 0) (heap_setCell_same w3 (w.heap.size + 1) 0 _ _ (.string ⟨#[]⟩) hq3))
  have Hq7 := hide (And.intro q7 hb7)
  have Hno := hide hno
  clear q7 hb7 hno
  go_wp2
  obtain ⟨q7, hb7⟩ := unhide Hq7
  obtain ⟨d0, d1, d2⟩ := bl3_ q7
  generalize ((w3.setCell _ _).setCell _ _).setCell _ _ = w7 at *
  exact bodyPost_ret (v := .tuple #[.agg #[.string ⟨#[]⟩, .slice none 0 0, .slice none 0 0], .bool false]) (by simp [results, Try.results52, go_sem, d0, d1, d2]) rfl ⟨.inl ⟨unhide Hno, rfl⟩, hb7⟩
 ·have hi : i < s.ks.length := by simpa [SP.names] using hin
  have HPl := hide (show Place s.names n i from .inr ⟨i, rfl, hin, hpl⟩)
  clear hpl hin
  have i0 : (0 : Int) ≤ (i : Int) := by omega
  have i0' : ¬ (i : Int) < 0 := by omega
  have i1 : (i : Int) < (s.ks.length : Int) := by omega
  have sc : w3.cell? ⟨w.heap.size, 0, none⟩ = some (.slice ko s.ks.length kc) := lc_ hbx3 rfl
  obtain ⟨x, g, off, rfl, hg, hx0, hkx⟩ := (unhide HR).get (Below.refl _ w) hi
  have hx := hx0.below B3 hg
  have hsm' := hsm _ (List.getElem_mem hi)
  obtain ⟨k, hke⟩ : ∃ k, k = s.ks[i] := ⟨_, rfl⟩
  rw [← hke] at hkx hsm'
  have Hk := hide hke
  clear hke
  obtain ⟨xn, xao, xal, xac, xbo, xbl, xbc⟩ := x
  obtain ⟨k1, k2, k3, k4, k5⟩ := hkx
  obtain ⟨a0, a1, a2⟩ := hx
  simp only at k1 k2 k3 k4 k5 a0 a1 a2
  subst k2 k4
  have Hn := hide k1
  clear k1
  have b5 := blw1 w3 (.cells #[.string xn, .slice xao k.ps.length xac, .slice xbo k.fs.length xbc] 80)
  have HK5 := alloc_heap w3 (.cells #[.string xn, .slice xao k.ps.length xac, .slice xbo k.fs.length xbc] 80)
  have HR5 := kept_of_below b5 hq3
  have b05 := B3.trans (b5.mono B3.size)
  have z5 : w3.heap.size < (w3.alloc (.cells #[.string xn, .slice xao k.ps.length xac, .slice xbo k.fs.length xbc] 80)).heap.size := by simp
  have C1 := fun w' (hb : Below w.heap.size w w') => mcopyS_any k.ps xao xac w' hsm'.1 (k3.below hb)
  have C2 := fun w' (hb : Below w.heap.size w w') => mcopyF_any k.fs xbo xbc w' hsm'.2 (k5.below hb)
  have hxl := hx0
  clear hxl hx0 k3 k5
  go_upto_region 5 with fail
  generalize w3.alloc _ = w5 at *
  have hR5 : (w.heap.size + 1) < w5.heap.size := by omega
  have hwR : w.heap.size ≤ (w.heap.size + 1) := by omega
  refine wp_specsD (kcSp w3.heap.size xn (.slice xao k.ps.length xac) (.slice xbo k.fs.length xbc) w5.heap.size k.ps.length (k.ps.map strC) k.fs.length 4 109 (k.fs.map F4.cells)) (CR w w5 (w.heap.size + 1) 80 xn k.ps.length (k.ps.map strC) k.fs.length 4 109 (k.fs.map F4.cells)) (by kernel_rfl) (by kernel_rfl) (by kernel_rfl) (CR.start _ b05 HR5 rfl) ?_ ?_ ?_
  ·intro q o d ho hd L a' w' hL hw hRR hdep hslot hsz K hK
   have hqN : q < 11 := dstOf_lt hd
   have hKb := (hRR.keep w3.heap.size (by omega) (by omega)).trans HK5
   obtain ⟨x0, x1, x2⟩ := bl3_ hKb
   clear hKb
   have hs7 : a'.tmps.getD 7 undef = .pointer (some ⟨w3.heap.size, 0, none⟩) := hslot 7 (fun q h => by have hl := dstOf_lt h; match q, hl with | 0, _ => cases h | 1, _ => cases h | 2, _ => cases h | 3, _ => cases h | 4, _ => cases h | 5, _ => cases h | 6, _ => cases h | 7, _ => cases h | 8, _ => cases h | 9, _ => cases h | 10, _ => cases h)
   have hc : q = 0 ∨ q = 1 ∨ q = 2 ∨ q = 3 ∨ q = 4 ∨ q = 5 ∨ q = 6 ∨ q = 7 ∨ q = 8 ∨ q = 9 ∨ q = 10 := by omega
   rcases hc with rfl | rfl | rfl | rfl | rfl | rfl | rfl | rfl | rfl | rfl | rfl
   ·cases ho
    cases hd
    have e0 := hs7
    clear x0 x1 x2
    unfold Oper.wp
    go_simp
    exact hK _ _ rfl (hRR.step (Below.refl _ w') 0 19 _ (by decide) (by decide)) (fun _ _ h => h)
   ·cases ho
    cases hd
    have e0 : a'.tmps.getD 19 undef = .pointer (some ⟨w3.heap.size, 0, none⟩) := hdep 0 19 rfl (by kernel_rfl)
    have e0' := gd_ e0
    unfold Oper.wp
    go_simp
    exact hK _ _ rfl (hRR.step (Below.refl _ w') 1 20 _ (by decide) (by decide)) (fun _ _ h => h)
   ·cases ho
    cases hd
    have e0 := hs7
    clear x0 x1 x2
    unfold Oper.wp
    go_simp
    exact hK _ _ rfl (hRR.step (Below.refl _ w') 2 21 _ (by decide) (by decide)) (fun _ _ h => h)
   ·cases ho
    cases hd
    have e0 : a'.tmps.getD 21 undef = .pointer (some ⟨w3.heap.size, 1, none⟩) := hdep 2 21 rfl (by kernel_rfl)
    have e0' := gd_ e0
    unfold Oper.wp
    go_simp
    exact hK _ _ rfl (hRR.step (Below.refl _ w') 3 22 _ (by decide) (by decide)) (fun _ _ h => h)
   ·cases ho
    cases hd
    have e0 : a'.tmps.getD 22 undef = .slice xao k.ps.length xac := hdep 3 22 rfl (by kernel_rfl)
    have e0' := gd_ e0
    have hC := C1 w' hRR.below
    have hz := hRR.size
    clear x0 x1 x2
    unfold Oper.wp
    go_simp
    refine hC.mono ?_
    rintro e w9 ⟨b9, b, rfl, hb, hrow, hty⟩
    exact hK _ _ ⟨b, rfl, Nat.le_trans hz hb, hrow, hty⟩ (hRR.step b9 4 23 _ (by decide) (by decide)) (kcSp_up b9)
   ·cases ho
    cases hd
    have e0 := hs7
    clear x0 x1 x2
    unfold Oper.wp
    go_simp
    exact hK _ _ rfl (hRR.step (Below.refl _ w') 5 24 _ (by decide) (by decide)) (fun _ _ h => h)
   ·cases ho
    cases hd
    have e0 : a'.tmps.getD 24 undef = .pointer (some ⟨w3.heap.size, 2, none⟩) := hdep 5 24 rfl (by kernel_rfl)
    have e0' := gd_ e0
    unfold Oper.wp
    go_simp
    exact hK _ _ rfl (hRR.step (Below.refl _ w') 6 25 _ (by decide) (by decide)) (fun _ _ h => h)
   ·cases ho
    cases hd
    have e0 : a'.tmps.getD 25 undef = .slice xbo k.fs.length xbc := hdep 6 25 rfl (by kernel_rfl)
    have e0' := gd_ e0
    have hC := C2 w' hRR.below
    have hz := hRR.size
    clear x0 x1 x2
    unfold Oper.wp
    go_simp
    refine hC.mono ?_
    rintro e w9 ⟨b9, b, rfl, hb, hrow, hty⟩
    exact hK _ _ ⟨b, rfl, Nat.le_trans hz hb, hrow, hty⟩ (hRR.step b9 7 26 _ (by decide) (by decide)) (kcSp_up b9)
   ·cases ho
    cases hd
    obtain ⟨p1, e1, q11, q12⟩ : RowB w5.heap.size w' (a'.tmps.getD 23 undef) k.ps.length 1 9 (k.ps.map strC) := hdep 4 23 rfl (by kernel_rfl)
    obtain ⟨p2, e2, q21, q22⟩ : RowB w5.heap.size w' (a'.tmps.getD 26 undef) k.fs.length 4 109 (k.fs.map F4.cells) := hdep 7 26 rfl (by kernel_rfl)
    have e0 : a'.tmps.getD 20 undef = .string xn := hdep 1 20 rfl (by kernel_rfl)
    have e0' := gd_ e0
    have e1' := gd_ e1
    have e2' := gd_ e2
    have HQ := hide (And.intro q11 (And.intro q12 (And.intro q21 q22)))
    have l20 : 20 < a'.tmps.size := by rw [hsz]; exact Nat.le_of_ble_eq_true (by kernel_rfl)
    have l23 : 23 < a'.tmps.size := by rw [hsz]; exact Nat.le_of_ble_eq_true (by kernel_rfl)
    have l26 : 26 < a'.tmps.size := by rw [hsz]; exact Nat.le_of_ble_eq_true (by kernel_rfl)
    have g0 : a'.tmps[20] = .string xn := by rw [Array.getElem?_eq_getElem l20] at e0'; exact e0'
    have g1 : a'.tmps[23] = .slice (some ⟨p1, 0, none⟩) k.ps.length k.ps.length := by rw [Array.getElem?_eq_getElem l23] at e1'; exact e1'
    have g2 : a'.tmps[26] = .slice (some ⟨p2, 0, none⟩) k.fs.length k.fs.length := by rw [Array.getElem?_eq_getElem l26] at e2'; exact e2'
    clear x0 x1 x2 q11 q12 q21 q22 hsz
    unfold Oper.wp
    go_simp
    obtain ⟨q11, q12, q21, q22⟩ := unhide HQ
    exact hK _ _ ⟨p1, p2, rfl, q11, q12, q21, q22⟩ (hRR.step (Below.refl _ w') 8 27 _ (by decide) (by decide)) (fun _ _ h => h)
   ·cases hd
   ·cases ho
    cases hd
    clear x0 x1 x2
    unfold Oper.wp
    go_simp
    exact hK _ _ rfl (hRR.step (Below.refl _ w') 10 5 _ (by decide) (by decide)) (fun _ _ h => h)
  ·intro q o ho hd L a' w' hL hw hRR hdep K hK
   have hqN : q < 11 := (List.getElem?_eq_some_iff.1 ho).1
   have hKb := (hRR.keep w3.heap.size (by omega) (by omega)).trans HK5
   obtain ⟨x0, x1, x2⟩ := bl3_ hKb
   clear hKb
   have hc : q = 0 ∨ q = 1 ∨ q = 2 ∨ q = 3 ∨ q = 4 ∨ q = 5 ∨ q = 6 ∨ q = 7 ∨ q = 8 ∨ q = 9 ∨ q = 10 := by omega
   rcases hc with rfl | rfl | rfl | rfl | rfl | rfl | rfl | rfl | rfl | rfl | rfl
   ·cases hd
   ·cases hd
   ·cases hd
   ·cases hd
   ·cases hd
   ·cases hd
   ·cases hd
   ·cases hd
   ·cases hd
   ·cases ho
    obtain ⟨p1, p2, e1, q11, q12, q21, q22⟩ : KcB w5.heap.size w' (a'.tmps.getD 27 undef) xn k.ps.length (k.ps.map strC) k.fs.length 4 109 (k.fs.map F4.cells) := hdep 8 27 rfl (by kernel_rfl)
    have e1' := gd_ e1
    have HP := hide (hRR.put hR5 hwR hL q11 q12 q21 q22)
    have hz := hRR.zero hL
    obtain ⟨r0, r1, r2⟩ := bl3_ hz
    have fz := fun o => Lib.frozen_of_heap hz o
    have e0 : a'.tmps.getD 4 undef = .pointer (some ⟨(w.heap.size + 1), 0, none⟩) := hRR.s4
    clear x0 x1 x2 hz q11 q12 q21 q22
    unfold Oper.wp
    go_simp
    exact hK _ (unhide HP).1 ((unhide HP).2 _ _ _) undef
   ·cases hd
  ·intro v L w' hLa hRR hv
   have bE := hRR.below
   obtain ⟨p1, p2, hRc, q11, q12, q21, q22⟩ := hRR.full (hLa 9 (by decide))
   have f0 : v 0 = _ := (hv 0 19 rfl).1
   have f1 : v 1 = _ := (hv 1 20 rfl).1
   have f2 : v 2 = _ := (hv 2 21 rfl).1
   have f3 : v 3 = _ := (hv 3 22 rfl).1
   have f5 : v 5 = _ := (hv 5 24 rfl).1
   have f6 : v 6 = _ := (hv 6 25 rfl).1
   have f10 : v 10 = .bool true := (hv 10 5 rfl).1
   clear hRR hv hLa
   simp only [putAll, dstOf, List.getElem?_cons_zero, List.getElem?_cons_succ, Option.bind_some, List.length_cons, List.length_nil, f0, f1, f2, f3, f5, f6, f10]
   clear f0 f1 f2 f3 f5 f6 f10
   simp only [Act.put, List.setIfInBounds_toArray, List.set_cons_succ, List.set_cons_zero]
   generalize v 4 = v4
   generalize v 7 = v7
   generalize v 8 = v8
   generalize v 9 = v9
   obtain ⟨d0, d1, d2⟩ := bl3_ hRc
   go_wp2
   refine bodyPost_ret (v := .tuple #[.agg #[.string xn, .slice (some ⟨p1, 0, none⟩) k.ps.length k.ps.length, .slice (some ⟨p2, 0, none⟩) k.fs.length k.fs.length], .bool true]) (by simp [results, Try.results52, go_sem, d0, d1, d2]) rfl ⟨.inr ⟨i, hi, ⟨xn, some ⟨p1, 0, none⟩, k.ps.length, k.ps.length, some ⟨p2, 0, none⟩, k.fs.length, k.fs.length⟩, unhide HPl, ?_, rfl⟩, bE⟩
   rw [← unhide Hk]
   exact ⟨⟨unhide Hn, rfl, q12.row, rfl, q22.row⟩, fun ad e _ => by injection e with e; subst e; exact q12.ty, fun ad e _ => by injection e with e; subst e; exact q22.ty⟩
set_option maxHeartbeats 4000000 in
set_option maxRecDepth 1000000 in
theorem mAction_any (s : SP) (v : Value) (n : ByteArray) (w : World) (hl : s.ac.length ≤ 281474976710656) (hsm : ∀ k ∈ s.ac, k.pr.length ≤ 1048576 ∧ k.re.length ≤ 1048576) (hs : IsS w v s) :
  Calls Try.prog 51 #[v, .string n] w fun e w' => FoundAT s n e w' ∧ Below w.heap.size w w' := by
 obtain ⟨ko, kc, ao, ac, rfl, hk, ha⟩ := hs.ex
 have b2 := blw2 w (.cells #[.slice ko s.ks.length kc, .slice ao s.ac.length ac] 33) (.cells #[.string ⟨#[]⟩, .slice none 0 0, .slice none 0 0] 83)
 have HR := hide ha
 have hbx : ((w.alloc (.cells #[.slice ko s.ks.length kc, .slice ao s.ac.length ac] 33)).alloc (.cells #[.string ⟨#[]⟩, .slice none 0 0, .slice none 0 0] 83)).heap[w.heap.size]? = some (.cells #[.slice ko s.ks.length kc, .slice ao s.ac.length ac] 33 (0, 0)) := by
  rw [Below.heap_alloc _ _ _ (by simp)]
  exact alloc_heap _ _
 have hq : ((w.alloc (.cells #[.slice ko s.ks.length kc, .slice ao s.ac.length ac] 33)).alloc (.cells #[.string ⟨#[]⟩, .slice none 0 0, .slice none 0 0] 83)).heap[w.heap.size + 1]? = some (.cells #[.string ⟨#[]⟩, .slice none 0 0, .slice none 0 0] 83 (0, 0)) := by
  have := alloc_heap (w.alloc (.cells #[.slice ko s.ks.length kc, .slice ao s.ac.length ac] 33)) (.cells #[.string ⟨#[]⟩, .slice none 0 0, .slice none 0 0] 83)
  simpa using this
 have z2 : w.heap.size + 2 ≤ ((w.alloc (.cells #[.slice ko s.ks.length kc, .slice ao s.ac.length ac] 33)).alloc (.cells #[.string ⟨#[]⟩, .slice none 0 0, .slice none 0 0] 83)).heap.size := by simp
 obtain ⟨c0, c1⟩ := bl2_ hbx
 have C := placeOfAction_any s _ n _ hl (hs.below b2)
 clear hs hk ha
 go_enter Try.func51, Try.ntmps51
 go_wp2_with fail
 generalize (w.alloc _).alloc _ = w2 at *
 refine C.mono ?_
 clear C
 rintro e w3 ⟨z, rfl, hz, b3⟩
 have hbx3 := kept_of_below b3 hbx
 have hq3 := kept_of_below b3 hq
 have z3 := b3.size
 have B3 := b2.trans (b3.mono b2.size)
 clear c0 c1 hbx hq
 rcases hz with ⟨rfl, hno⟩ | ⟨i, rfl, hin, hpl⟩
 ·have r0 : w3.cell? ⟨w.heap.size + 1, 0, none⟩ = some (.string ⟨#[]⟩) := lc_ hq3 rfl
  have r1 : w3.cell? ⟨w.heap.size + 1, 1, none⟩ = some (.slice none 0 0) := lc_ hq3 rfl
  have r2 : w3.cell? ⟨w.heap.size + 1, 2, none⟩ = some (.slice none 0 0) := lc_ hq3 rfl
  have fz := fun o => Lib.frozen_of_heap hq3 o
  have hb7 := ((B3.setCell (p := ⟨w.heap.size + 1, 0, none⟩) (by show w.heap.size ≤ w.heap.size + 1; omega) (.string ⟨#[]⟩)).setCell (p := ⟨w.heap.size + 1, 1, none⟩) (by show w.heap.size ≤ w.heap.size + 1; omega) (.slice none 0 0)).setCell (p := ⟨w.heap.size + 1, 2, none⟩) (by show w.heap.size ≤ w.heap.size + 1; omega) (.slice none 0 0)
  have q7 := heap_setCell_same _ (w.heap.size + 1) 2 _ _ (.slice none 0 0) (heap_setCell_same _ (w.heap.size + 1) 1 _ _ (.slice none 0 0) (heap_setCell_same w3 (w.heap.size + 1) 0 _ _ (.string ⟨#[]⟩) hq3))
  have Hq7 := hide (And.intro q7 hb7)
  have Hno := hide hno
  clear q7 hb7 hno
  go_wp2
  obtain ⟨q7, hb7⟩ := unhide Hq7
  obtain ⟨d0, d1, d2⟩ := bl3_ q7
  generalize ((w3.setCell _ _).setCell _ _).setCell _ _ = w7 at *
  exact bodyPost_ret (v := .tuple #[.agg #[.string ⟨#[]⟩, .slice none 0 0, .slice none 0 0], .bool false]) (by simp [results, Try.results51, go_sem, d0, d1, d2]) rfl ⟨.inl ⟨unhide Hno, rfl⟩, hb7⟩
 ·have hi : i < s.ac.length := by simpa [SP.acts] using hin
  have HPl := hide (show Place s.acts n i from .inr ⟨i, rfl, hin, hpl⟩)
  clear hpl hin
  have i0 : (0 : Int) ≤ (i : Int) := by omega
  have i0' : ¬ (i : Int) < 0 := by omega
  have i1 : (i : Int) < (s.ac.length : Int) := by omega
  have sc : w3.cell? ⟨w.heap.size, 1, none⟩ = some (.slice ao s.ac.length ac) := lc_ hbx3 rfl
  obtain ⟨x, g, off, rfl, hg, hx0, hkx⟩ := (unhide HR).get (Below.refl _ w) hi
  have hx := hx0.below B3 hg
  have hsm' := hsm _ (List.getElem_mem hi)
  obtain ⟨k, hke⟩ : ∃ k, k = s.ac[i] := ⟨_, rfl⟩
  rw [← hke] at hkx hsm'
  have Hk := hide hke
  clear hke
  obtain ⟨xn, xao, xal, xac, xbo, xbl, xbc⟩ := x
  obtain ⟨k1, k2, k3, k4, k5⟩ := hkx
  obtain ⟨a0, a1, a2⟩ := hx
  simp only at k1 k2 k3 k4 k5 a0 a1 a2
  subst k2 k4
  have Hn := hide k1
  clear k1
  have b5 := blw1 w3 (.cells #[.string xn, .slice xao k.pr.length xac, .slice xbo k.re.length xbc] 83)
  have HK5 := alloc_heap w3 (.cells #[.string xn, .slice xao k.pr.length xac, .slice xbo k.re.length xbc] 83)
  have HR5 := kept_of_below b5 hq3
  have b05 := B3.trans (b5.mono B3.size)
  have z5 : w3.heap.size < (w3.alloc (.cells #[.string xn, .slice xao k.pr.length xac, .slice xbo k.re.length xbc] 83)).heap.size := by simp
  have C1 := fun w' (hb : Below w.heap.size w w') => mcopyS_any k.pr xao xac w' hsm'.1 (k3.below hb)
  have C2 := fun w' (hb : Below w.heap.size w w') => mcopyS_any k.re xbo xbc w' hsm'.2 (k5.below hb)
  have hxl := hx0
  clear hxl hx0 k3 k5
  go_upto_region 5 with fail
  generalize w3.alloc _ = w5 at *
  have hR5 : (w.heap.size + 1) < w5.heap.size := by omega
  have hwR : w.heap.size ≤ (w.heap.size + 1) := by omega
  refine wp_specsD (kcSp w3.heap.size xn (.slice xao k.pr.length xac) (.slice xbo k.re.length xbc) w5.heap.size k.pr.length (k.pr.map strC) k.re.length 1 9 (k.re.map strC)) (CR w w5 (w.heap.size + 1) 83 xn k.pr.length (k.pr.map strC) k.re.length 1 9 (k.re.map strC)) (by kernel_rfl) (by kernel_rfl) (by kernel_rfl) (CR.start _ b05 HR5 rfl) ?_ ?_ ?_
  ·intro q o d ho hd L a' w' hL hw hRR hdep hslot hsz K hK
   have hqN : q < 11 := dstOf_lt hd
   have hKb := (hRR.keep w3.heap.size (by omega) (by omega)).trans HK5
   obtain ⟨x0, x1, x2⟩ := bl3_ hKb
   clear hKb
   have hs7 : a'.tmps.getD 7 undef = .pointer (some ⟨w3.heap.size, 0, none⟩) := hslot 7 (fun q h => by have hl := dstOf_lt h; match q, hl with | 0, _ => cases h | 1, _ => cases h | 2, _ => cases h | 3, _ => cases h | 4, _ => cases h | 5, _ => cases h | 6, _ => cases h | 7, _ => cases h | 8, _ => cases h | 9, _ => cases h | 10, _ => cases h)
   have hc : q = 0 ∨ q = 1 ∨ q = 2 ∨ q = 3 ∨ q = 4 ∨ q = 5 ∨ q = 6 ∨ q = 7 ∨ q = 8 ∨ q = 9 ∨ q = 10 := by omega
   rcases hc with rfl | rfl | rfl | rfl | rfl | rfl | rfl | rfl | rfl | rfl | rfl
   ·cases ho
    cases hd
    have e0 := hs7
    clear x0 x1 x2
    unfold Oper.wp
    go_simp
    exact hK _ _ rfl (hRR.step (Below.refl _ w') 0 19 _ (by decide) (by decide)) (fun _ _ h => h)
   ·cases ho
    cases hd
    have e0 : a'.tmps.getD 19 undef = .pointer (some ⟨w3.heap.size, 0, none⟩) := hdep 0 19 rfl (by kernel_rfl)
    have e0' := gd_ e0
    unfold Oper.wp
    go_simp
    exact hK _ _ rfl (hRR.step (Below.refl _ w') 1 20 _ (by decide) (by decide)) (fun _ _ h => h)
   ·cases ho
    cases hd
    have e0 := hs7
    clear x0 x1 x2
    unfold Oper.wp
    go_simp
    exact hK _ _ rfl (hRR.step (Below.refl _ w') 2 21 _ (by decide) (by decide)) (fun _ _ h => h)
   ·cases ho
    cases hd
    have e0 : a'.tmps.getD 21 undef = .pointer (some ⟨w3.heap.size, 1, none⟩) := hdep 2 21 rfl (by kernel_rfl)
    have e0' := gd_ e0
    unfold Oper.wp
    go_simp
    exact hK _ _ rfl (hRR.step (Below.refl _ w') 3 22 _ (by decide) (by decide)) (fun _ _ h => h)
   ·cases ho
    cases hd
    have e0 : a'.tmps.getD 22 undef = .slice xao k.pr.length xac := hdep 3 22 rfl (by kernel_rfl)
    have e0' := gd_ e0
    have hC := C1 w' hRR.below
    have hz := hRR.size
    clear x0 x1 x2
    unfold Oper.wp
    go_simp
    refine hC.mono ?_
    rintro e w9 ⟨b9, b, rfl, hb, hrow, hty⟩
    exact hK _ _ ⟨b, rfl, Nat.le_trans hz hb, hrow, hty⟩ (hRR.step b9 4 23 _ (by decide) (by decide)) (kcSp_up b9)
   ·cases ho
    cases hd
    have e0 := hs7
    clear x0 x1 x2
    unfold Oper.wp
    go_simp
    exact hK _ _ rfl (hRR.step (Below.refl _ w') 5 24 _ (by decide) (by decide)) (fun _ _ h => h)
   ·cases ho
    cases hd
    have e0 : a'.tmps.getD 24 undef = .pointer (some ⟨w3.heap.size, 2, none⟩) := hdep 5 24 rfl (by kernel_rfl)
    have e0' := gd_ e0
    unfold Oper.wp
    go_simp
    exact hK _ _ rfl (hRR.step (Below.refl _ w') 6 25 _ (by decide) (by decide)) (fun _ _ h => h)
   ·cases ho
    cases hd
    have e0 : a'.tmps.getD 25 undef = .slice xbo k.re.length xbc := hdep 6 25 rfl (by kernel_rfl)
    have e0' := gd_ e0
    have hC := C2 w' hRR.below
    have hz := hRR.size
    clear x0 x1 x2
    unfold Oper.wp
    go_simp
    refine hC.mono ?_
    rintro e w9 ⟨b9, b, rfl, hb, hrow, hty⟩
    exact hK _ _ ⟨b, rfl, Nat.le_trans hz hb, hrow, hty⟩ (hRR.step b9 7 26 _ (by decide) (by decide)) (kcSp_up b9)
   ·cases ho
    cases hd
    obtain ⟨p1, e1, q11, q12⟩ : RowB w5.heap.size w' (a'.tmps.getD 23 undef) k.pr.length 1 9 (k.pr.map strC) := hdep 4 23 rfl (by kernel_rfl)
    obtain ⟨p2, e2, q21, q22⟩ : RowB w5.heap.size w' (a'.tmps.getD 26 undef) k.re.length 1 9 (k.re.map strC) := hdep 7 26 rfl (by kernel_rfl)
    have e0 : a'.tmps.getD 20 undef = .string xn := hdep 1 20 rfl (by kernel_rfl)
    have e0' := gd_ e0
    have e1' := gd_ e1
    have e2' := gd_ e2
    have HQ := hide (And.intro q11 (And.intro q12 (And.intro q21 q22)))
    have l20 : 20 < a'.tmps.size := by rw [hsz]; exact Nat.le_of_ble_eq_true (by kernel_rfl)
    have l23 : 23 < a'.tmps.size := by rw [hsz]; exact Nat.le_of_ble_eq_true (by kernel_rfl)
    have l26 : 26 < a'.tmps.size := by rw [hsz]; exact Nat.le_of_ble_eq_true (by kernel_rfl)
    have g0 : a'.tmps[20] = .string xn := by rw [Array.getElem?_eq_getElem l20] at e0'; exact e0'
    have g1 : a'.tmps[23] = .slice (some ⟨p1, 0, none⟩) k.pr.length k.pr.length := by rw [Array.getElem?_eq_getElem l23] at e1'; exact e1'
    have g2 : a'.tmps[26] = .slice (some ⟨p2, 0, none⟩) k.re.length k.re.length := by rw [Array.getElem?_eq_getElem l26] at e2'; exact e2'
    clear x0 x1 x2 q11 q12 q21 q22 hsz
    unfold Oper.wp
    go_simp
    obtain ⟨q11, q12, q21, q22⟩ := unhide HQ
    exact hK _ _ ⟨p1, p2, rfl, q11, q12, q21, q22⟩ (hRR.step (Below.refl _ w') 8 27 _ (by decide) (by decide)) (fun _ _ h => h)
   ·cases hd
   ·cases ho
    cases hd
    clear x0 x1 x2
    unfold Oper.wp
    go_simp
    exact hK _ _ rfl (hRR.step (Below.refl _ w') 10 5 _ (by decide) (by decide)) (fun _ _ h => h)
  ·intro q o ho hd L a' w' hL hw hRR hdep K hK
   have hqN : q < 11 := (List.getElem?_eq_some_iff.1 ho).1
   have hKb := (hRR.keep w3.heap.size (by omega) (by omega)).trans HK5
   obtain ⟨x0, x1, x2⟩ := bl3_ hKb
   clear hKb
   have hc : q = 0 ∨ q = 1 ∨ q = 2 ∨ q = 3 ∨ q = 4 ∨ q = 5 ∨ q = 6 ∨ q = 7 ∨ q = 8 ∨ q = 9 ∨ q = 10 := by omega
   rcases hc with rfl | rfl | rfl | rfl | rfl | rfl | rfl | rfl | rfl | rfl | rfl
   ·cases hd
   ·cases hd
   ·cases hd
   ·cases hd
   ·cases hd
   ·cases hd
   ·cases hd
   ·cases hd
   ·cases hd
   ·cases ho
    obtain ⟨p1, p2, e1, q11, q12, q21, q22⟩ : KcB w5.heap.size w' (a'.tmps.getD 27 undef) xn k.pr.length (k.pr.map strC) k.re.length 1 9 (k.re.map strC) := hdep 8 27 rfl (by kernel_rfl)
    have e1' := gd_ e1
    have HP := hide (hRR.put hR5 hwR hL q11 q12 q21 q22)
    have hz := hRR.zero hL
    obtain ⟨r0, r1, r2⟩ := bl3_ hz
    have fz := fun o => Lib.frozen_of_heap hz o
    have e0 : a'.tmps.getD 4 undef = .pointer (some ⟨(w.heap.size + 1), 0, none⟩) := hRR.s4
    clear x0 x1 x2 hz q11 q12 q21 q22
    unfold Oper.wp
    go_simp
    exact hK _ (unhide HP).1 ((unhide HP).2 _ _ _) undef
   ·cases hd
  ·intro v L w' hLa hRR hv
   have bE := hRR.below
   obtain ⟨p1, p2, hRc, q11, q12, q21, q22⟩ := hRR.full (hLa 9 (by decide))
   have f0 : v 0 = _ := (hv 0 19 rfl).1
   have f1 : v 1 = _ := (hv 1 20 rfl).1
   have f2 : v 2 = _ := (hv 2 21 rfl).1
   have f3 : v 3 = _ := (hv 3 22 rfl).1
   have f5 : v 5 = _ := (hv 5 24 rfl).1
   have f6 : v 6 = _ := (hv 6 25 rfl).1
   have f10 : v 10 = .bool true := (hv 10 5 rfl).1
   clear hRR hv hLa
   simp only [putAll, dstOf, List.getElem?_cons_zero, List.getElem?_cons_succ, Option.bind_some, List.length_cons, List.length_nil, f0, f1, f2, f3, f5, f6, f10]
   clear f0 f1 f2 f3 f5 f6 f10
   simp only [Act.put, List.setIfInBounds_toArray, List.set_cons_succ, List.set_cons_zero]
   generalize v 4 = v4
   generalize v 7 = v7
   generalize v 8 = v8
   generalize v 9 = v9
   obtain ⟨d0, d1, d2⟩ := bl3_ hRc
   go_wp2
   refine bodyPost_ret (v := .tuple #[.agg #[.string xn, .slice (some ⟨p1, 0, none⟩) k.pr.length k.pr.length, .slice (some ⟨p2, 0, none⟩) k.re.length k.re.length], .bool true]) (by simp [results, Try.results51, go_sem, d0, d1, d2]) rfl ⟨.inr ⟨i, hi, ⟨xn, some ⟨p1, 0, none⟩, k.pr.length, k.pr.length, some ⟨p2, 0, none⟩, k.re.length, k.re.length⟩, unhide HPl, ?_, rfl⟩, bE⟩
   rw [← unhide Hk]
   exact ⟨⟨unhide Hn, rfl, q12.row, rfl, q22.row⟩, fun ad e _ => by injection e with e; subst e; exact q12.ty, fun ad e _ => by injection e with e; subst e; exact q22.ty⟩
end Go.Proofs.Ytagnbpobcijakaa
