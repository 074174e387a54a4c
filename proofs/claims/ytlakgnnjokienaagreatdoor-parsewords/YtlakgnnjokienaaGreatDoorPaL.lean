/-
  parse's reader: what stands behind a dot.
-/
import Derived.Test.YtlakgnnjokienaaGreatDoorPaH
import Derived.Deep.RegionHeld
namespace Go.Proofs.YtlakgnnjokienaaGreatDoor
open Go.RowKit

theorem isE_tx1 {w : World} {P : Nat → Prop} {b c : Nat} {r : R7} {x : Ex} (op : Int) (s : List UInt8) (y : ByteArray) (hs : y = ⟨s.toArray⟩) (hP : P b) (hb : b < w.heap.size) (h7 : At7 w b 0 r) (hx : IsE w P r x) : IsE w P ⟨op, false, 0, y, ⟨#[]⟩, ⟨#[]⟩, some ⟨b, 0, none⟩, 1, c⟩ (eTx op s [x]) := by
  subst hs
  unfold eTx
  unfold IsE
  refine ⟨rfl, rfl, rfl, rfl, rfl, rfl, rfl, ?_⟩
  unfold IsEs
  refine ⟨⟨r, b, 0, rfl, hP, hb, by simpa using h7, hx⟩, ?_⟩
  unfold IsEs
  trivial
theorem needSS_out (x : List UInt8) (g : Ex → Ex) (o : Rs Ex) : outS (o.bind fun p => (needS x p.2).map fun r => (g p.1, r)) = needSS 4 x (outS o) := by
  cases o with
  | none => rfl
  | some p =>
    show outS ((needS x p.2).map fun r => (g p.1, r)) = needSS 4 x (some p.2)
    unfold needS needSS
    have : isTS 4 x (some p.2) = sg x p.2 := rfl
    rw [this]
    cases sg x p.2 <;> rfl
/-- With an older tree: what is answered hangs on old blocks, and on new ones. -/
def MDoes (M : Ex → Pr Ex) (n : Nat) : Prop :=
  ∀ (st : St) (w : World) (rb : Nat) (r : R7) (x : Ex) (P : Nat → Prop), stLen st < n → RdAt w rb st → IsE w P r x → (∀ b, P b → b ≠ rb) →
    Calls Tryz.prog 95 #[rp rb, r.val] w fun e w' => ∃ r' : R7, e = .returned r'.val ∧ Keep rb w w' ∧ RdAt w' rb (outS (st.bind (M x))) ∧ ∀ y ts, st.bind (M x) = some (y, ts) → IsE w' (fun b => P b ∨ w.heap.size ≤ b) r' y

theorem member_none (E : Pr Ex) (x : Ex) {st : St} (h : needSt 1 st = none) : st.bind (memberP E x) = none := by
  cases st with
  | none => rfl
  | some ts =>
    show memberP E x ts = none
    have : need 1 ts = none := by
      unfold needSt at h
      unfold need
      have e : (hdS (some ts) 0) = hd ts 0 := rfl
      rw [e] at h
      split at h
      · cases h
      · rename_i hk; rw [if_neg hk]
    unfold memberP
    rw [this]
    rfl
theorem member_some (E : Pr Ex) (x : Ex) {st : St} {r : List Tok} (h : needSt 1 st = some r) : st.bind (memberP E x) = if sg [40] r then (if (needTok 1 st).s = cContains then (E r.tail).bind fun p => (needS [41] p.2).map fun r => (eOp 9 [x, p.1], r) else none) else some (eTx 7 (needTok 1 st).s [x], r) := by
  have hk : (hdS st 0).k = 1 := by
    unfold needSt at h
    split at h
    · assumption
    · cases h
  obtain ⟨ts, rfl, h1, h2⟩ := needSt_ok (by decide) hk
  rw [h2] at h
  cases h
  show memberP E x ts = _
  unfold memberP
  rw [h1]
  rfl

theorem alloc_size (w : World) (o : Obj) : (w.alloc o).heap.size = w.heap.size + 1 := by simp
theorem needSt_len (k : Int) (st : St) : stLen (needSt k st) ≤ stLen st := by
  unfold needSt
  split
  · cases st with
    | none => exact Nat.le_refl _
    | some ts => show ts.tail.length ≤ ts.length; simp
  · exact Nat.zero_le _
theorem set7_new (w : World) (v0 v1 v2 v3 v4 v5 v6 u0 u1 u2 u3 u4 u5 u6 : Value) (T : TypeId) : set7 (w.alloc (.cells #[u0, u1, u2, u3, u4, u5, u6] T)) w.heap.size v0 v1 v2 v3 v4 v5 v6 = w.alloc (.cells #[v0, v1, v2, v3, v4, v5, v6] T) := by
  simp [set7, go_sem]
/-- Two trees are one, in a block of which nobody else knows. -/
theorem made2 {w W0 w6 w9 : World} {rb ba b7 t4 : Nat} {P : Nat → Prop} {r r' : R7} {x : Ex} {o2 : Rs Ex} (op : Int) (hK0 : Keep rb w W0) (k6 : Keep rb W0 w6) (r6 : RdAt w6 rb (outS o2)) (HE6 : ∀ z ts, o2 = some (z, ts) → IsE w6 (fun b => W0.heap.size ≤ b) r' z)
    (b69 : Below w6.heap.size w6 w9) (hba : w9.heap[ba]? = some (arr2 r r')) (hba1 : w6.heap.size ≤ ba) (hb7 : w9.heap[b7]? = some (.cells #[.int .i64 0, .bool false, .int .i64 0, .string ⟨#[]⟩, .string ⟨#[]⟩, .string ⟨#[]⟩, .slice none 0 0] 28 (0, 0))) (hb71 : (w.heap.size ≤ b7 ∧ b7 < W0.heap.size ∧ b7 ≠ t4) ∨ w6.heap.size ≤ b7) (hne : ba ≠ b7) (hrb : rb < w.heap.size)
    (ht4 : w.heap.size ≤ t4 ∧ t4 < W0.heap.size) (hx : IsE w P r x) (hP : ∀ b, P b → b ≠ rb) :
    ∀ v0 v1 v2 v3 v4 v5 v6, Keep rb w (set7 w9 b7 v0 v1 v2 v3 v4 v5 v6) ∧ RdAt (set7 w9 b7 v0 v1 v2 v3 v4 v5 v6) rb (outS o2) ∧ b7 ≠ t4 ∧ b7 ≠ rb ∧ (set7 w9 b7 v0 v1 v2 v3 v4 v5 v6).heap[b7]? = some (.cells #[v0, v1, v2, v3, v4, v5, v6] 28 (0, 0)) ∧ (∀ k o, W0.heap[k]? = some o → k ≠ rb → k ≠ b7 → (set7 w9 b7 v0 v1 v2 v3 v4 v5 v6).heap[k]? = some o) ∧
      ∀ z ts, o2 = some (z, ts) → IsE (set7 w9 b7 v0 v1 v2 v3 v4 v5 v6) (fun b => b ≠ b7 ∧ b ≠ t4 ∧ b ≠ rb ∧ (P b ∨ w.heap.size ≤ b)) ⟨op, false, 0, ⟨#[]⟩, ⟨#[]⟩, ⟨#[]⟩, some ⟨ba, 0, none⟩, 2, 2⟩ (eOp op [x, z]) := by
  intro v0 v1 v2 v3 v4 v5 v6
  have q0 := hK0.size
  have q1 := k6.size
  have q2 := b69.size
  have q3 := (Array.getElem?_eq_some_iff.1 hba).1
  have hb7r : b7 ≠ rb := by omega
  refine ⟨((hK0.trans k6).trans (.of_below b69)).set7 (by omega) _ _ _ _ _ _ _, (r6.below b69).set7 (by omega) _ _ _ _ _ _ _, by omega, hb7r, set7_at hb7 _ _ _ _ _ _ _, ?_, ?_⟩
  · intro k o hk h1 h2
    rw [set7_heap _ _ _ _ _ _ _ _ _ _ h2]
    exact kept_of_below b69 (k6.kept h1 hk)
  · intro z ts hz
    have hb : (set7 w9 b7 v0 v1 v2 v3 v4 v5 v6).heap[ba]? = some (arr2 r r') := by
      rw [set7_heap _ _ _ _ _ _ _ _ _ _ hne]
      exact hba
    obtain ⟨a1, a2⟩ := At7.arr2 hb
    refine isE_op2 op ⟨hne, by omega, by omega, .inr (by omega)⟩ (by rw [set7_size]; exact q3) a1 a2 ?_ ?_
    · refine IsE.turn (by rw [set7_size]; omega) (fun b hb hb2 => ⟨?_, ?_⟩) r x hx
      · have := hP b hb
        rw [set7_heap _ _ _ _ _ _ _ _ _ _ (by omega), b69.block b (by omega), k6.block b (by omega) this]
        exact hK0.block b hb2 this
      · exact ⟨by omega, by omega, hP b hb, .inl hb⟩
    · refine IsE.turn (by rw [set7_size]; omega) (fun b hb hb2 => ⟨?_, ?_⟩) r' z (HE6 z ts hz)
      · rw [set7_heap _ _ _ _ _ _ _ _ _ _ (by omega)]
        exact b69.block b hb2
      · exact ⟨by omega, by omega, by omega, .inr (by omega)⟩

set_option maxHeartbeats 4000000 in
set_option maxRecDepth 1000000 in
theorem member_does (E : Pr Ex) (n : Nat) (HX : Does 14 E n) : MDoes (memberP E) n := by
  intro st w rb r x P hn h hx hP
  have hlt := h.lt
  have b0 := below2 w (.cells #[.int .i64 r.k, .bool r.b, .int .i64 r.n, .string r.s, .string r.t, .string r.i, .slice r.lo r.ll r.lc] 28) (.cells #[.int .i64 0, .bool false, .int .i64 0, .string ⟨#[]⟩, .string ⟨#[]⟩, .string ⟨#[]⟩, .slice none 0 0] 28)
  have z3 : ((w.alloc (.cells #[.int .i64 r.k, .bool r.b, .int .i64 r.n, .string r.s, .string r.t, .string r.i, .slice r.lo r.ll r.lc] 28)).alloc (.cells #[.int .i64 0, .bool false, .int .i64 0, .string ⟨#[]⟩, .string ⟨#[]⟩, .string ⟨#[]⟩, .slice none 0 0] 28)).heap[w.heap.size]? = some (.cells #[.int .i64 r.k, .bool r.b, .int .i64 r.n, .string r.s, .string r.t, .string r.i, .slice r.lo r.ll r.lc] 28 (0, 0)) := kept_of_below (new1 _ _) (alloc_heap _ _)
  have z4 : ((w.alloc (.cells #[.int .i64 r.k, .bool r.b, .int .i64 r.n, .string r.s, .string r.t, .string r.i, .slice r.lo r.ll r.lc] 28)).alloc (.cells #[.int .i64 0, .bool false, .int .i64 0, .string ⟨#[]⟩, .string ⟨#[]⟩, .string ⟨#[]⟩, .slice none 0 0] 28)).heap[w.heap.size + 1]? = some (.cells #[.int .i64 0, .bool false, .int .i64 0, .string ⟨#[]⟩, .string ⟨#[]⟩, .string ⟨#[]⟩, .slice none 0 0] 28 (0, 0)) := by
    have := alloc_heap (w.alloc (.cells #[.int .i64 r.k, .bool r.b, .int .i64 r.n, .string r.s, .string r.t, .string r.i, .slice r.lo r.ll r.lc] 28)) (.cells #[.int .i64 0, .bool false, .int .i64 0, .string ⟨#[]⟩, .string ⟨#[]⟩, .string ⟨#[]⟩, .slice none 0 0] 28)
    simpa using this
  have hn3 : w.heap.size ≠ rb := by omega
  have hn4 : w.heap.size + 1 ≠ rb := by omega
  have N := name_any st _ rb (h.below b0)
  have S : ∀ w1, RdAt w1 rb (needSt 1 st) → Calls Tryz.prog 35 #[rp rb, .string ⟨#[40]⟩] w1 fun e w' => e = .returned (.bool (isTS 4 [40] (needSt 1 st))) ∧ Keep rb w1 w' ∧ RdAt w' rb (aft 4 [40] (needSt 1 st)) := fun w1 h' => sign_any (needSt 1 st) w1 rb ⟨#[40]⟩ h'
  have hm0 := member_none E x (st := st)
  have hm1 := fun r => member_some E x (st := st) (r := r)
  obtain ⟨y, hy⟩ : ∃ y : ByteArray, y = ⟨(needTok 1 st).s.toArray⟩ := ⟨_, rfl⟩
  have hyl : (needTok 1 st).s = y.data.toList := by rw [hy]
  rw [← hy] at N
  rw [hyl] at hm1
  have hx0 := hide hx
  have hP0 := hide hP
  have HS1 := hide (show stLen (needSt 1 st) ≤ stLen st from needSt_len 1 st)
  generalize needSt 1 st = s1 at *
  generalize st.bind (memberP E x) = O at *
  clear hy hyl hx hP
  unfold rp at N S ⊢
  unfold R7.val
  cases c1 : isTS 4 [40] s1 with
  | false =>
    obtain ⟨g1, g2⟩ := isTS_no c1
    have hO : outS O = s1 ∧ ∀ y' ts, O = some (y', ts) → y' = eTx 7 y.data.toList [x] := by
      cases s1 with
      | none => rw [hm0 rfl]; exact ⟨rfl, fun _ _ e => by cases e⟩
      | some r' => rw [hm1 r' rfl, show sg [40] r' = false from g2 r' rfl]; exact ⟨rfl, fun _ _ e => by cases e; rfl⟩
    have HO := hide hO
    rw [c1, g1] at S
    clear c1 g1 g2 hO hm0 hm1 HX
    have NO := fun ao n c w => node_any 7 ao n c w
    go_enter Tryz.func95, Tryz.ntmps95
    go_wp2_with fail
    generalize (w.alloc _).alloc _ = w0 at *
    refine N.mono ?_
    rintro e w1 ⟨rfl, k1, r1⟩
    go_wp2_with fail
    refine (S _ r1).mono ?_
    rintro e w2 ⟨rfl, k2, r2⟩
    have k12 := k1.trans k2
    have Z3 := k12.kept hn3 z3
    have Z4 := k12.kept hn4 z4
    obtain ⟨u0, u1, u2, u3, u4, u5, u6, _⟩ := blk7 Z3
    go_wp2_with fail
    refine (NO _ _ _ _).mono ?_
    rintro e w4 ⟨rfl, b4⟩
    have n3 := new1 w2 (.cells #[.int .i64 r.k, .bool r.b, .int .i64 r.n, .string r.s, .string r.t, .string r.i, .slice r.lo r.ll r.lc] 28)
    have b24 := n3.trans (b4.mono n3.size)
    have K4 := ((Keep.of_below (rb := rb) b0).trans k12).trans (.of_below b24)
    have R4 := r2.below b24
    have Y4 := kept_of_below b24 Z4
    have hz4 : w.heap.size + 1 < w4.heap.size := (Array.getElem?_eq_some_iff.1 Y4).1
    have hs2 : w.heap.size + 1 < w2.heap.size := (Array.getElem?_eq_some_iff.1 Z4).1
    clear u0 u1 u2 u3 u4 u5 u6 NO
    have n5 := new1 w4 (.cells #[.int .i64 7, .bool false, .int .i64 0, .string y, .string ⟨#[]⟩, .string ⟨#[]⟩, .slice (some ⟨w2.heap.size, 0, none⟩) 1 1] 28)
    have V6 : (w4.alloc (.cells #[.int .i64 7, .bool false, .int .i64 0, .string y, .string ⟨#[]⟩, .string ⟨#[]⟩, .slice (some ⟨w2.heap.size, 0, none⟩) 1 1] 28)).heap[w4.heap.size]? = some (.cells #[.int .i64 7, .bool false, .int .i64 0, .string y, .string ⟨#[]⟩, .string ⟨#[]⟩, .slice (some ⟨w2.heap.size, 0, none⟩) 1 1] 28 (0, 0)) := alloc_heap _ _
    have V4 := kept_of_below n5 Y4
    have V2 := kept_of_below n5 (kept_of_below b4 (alloc_heap w2 (.cells #[.int .i64 r.k, .bool r.b, .int .i64 r.n, .string r.s, .string r.t, .string r.i, .slice r.lo r.ll r.lc] 28)))
    have K5 := K4.trans (.of_below n5)
    have R5 := R4.below n5
    have b25 := b24.trans (n5.mono b24.size)
    go_upto_region 5 with fail
    generalize w4.alloc _ = w5 at *
    obtain ⟨u0, u1, u2, u3, u4, u5, u6, _⟩ := blk7 V6
    obtain ⟨x0, x1, x2, x3, x4, x5, x6, xf⟩ := blk7 V4
    have HI : Hid (∀ y' ts, O = some (y', ts) → ∀ v0 v1 v2 v3 v4 v5 v6, IsE (set7 w5 (w.heap.size + 1) v0 v1 v2 v3 v4 v5 v6) (fun b => P b ∨ w.heap.size ≤ b) ⟨7, false, 0, y, ⟨#[]⟩, ⟨#[]⟩, some ⟨w2.heap.size, 0, none⟩, 1, 1⟩ y') := hide (by
      intro y' ts hy' v0 v1 v2 v3 v4 v5 v6
      rw [(unhide HO).2 y' ts hy']
      have hk := k12.size
      have hk0 := b0.size
      have hb5 := b25.size
      have hv2 := (Array.getElem?_eq_some_iff.1 V2).1
      refine isE_tx1 (r := r) 7 _ y rfl (.inr (by omega)) (by rw [set7_size]; exact hv2) (At7.of_blk (T := 28) ?_) ?_
      · rw [set7_heap _ _ _ _ _ _ _ _ _ _ (by omega)]
        exact V2
      · exact IsE.turn (by rw [set7_size]; omega) (fun b hb hb2 => ⟨by
          have := unhide hP0 b hb
          rw [set7_heap _ _ _ _ _ _ _ _ _ _ (by omega), b25.block b (by omega), k12.block b (by omega) this]
          exact b0.block b hb2, .inl hb⟩) r x (unhide hx0))
    go_wp2
    exact bodyPost_ret (v := R7.val ⟨7, false, 0, y, ⟨#[]⟩, ⟨#[]⟩, some ⟨w2.heap.size, 0, none⟩, 1, 1⟩) (by simp [results, Tryz.results95, go_sem, x0, x1, x2, x3, x4, x5, x6, R7.val]) rfl ⟨_, rfl, K5.set7 (by omega) _ _ _ _ _ _ _, by rw [(unhide HO).1]; exact R5.set7 (by omega) _ _ _ _ _ _ _, fun y' ts hy' => unhide HI y' ts hy' _ _ _ _ _ _ _⟩
  | true =>
    obtain ⟨ts, rfl, hl, g1, g2⟩ := isTS_sg (by decide) c1
    have hm := hm1 ts rfl
    rw [show sg [40] ts = true from g1, if_pos rfl] at hm
    rw [c1, g2] at S
    have hst : stLen (some ts.tail) < n := by
      have h1 := unhide HS1
      have h2 : stLen (some ts) = ts.length := rfl
      have h3 : stLen (some ts.tail) = ts.length - 1 := by simp [stLen]
      omega
    have NS : ∀ s2 w1, RdAt w1 rb s2 → Calls Tryz.prog 27 #[.pointer (some ⟨rb, 0, none⟩), .string ⟨#[41]⟩] w1 fun e w' => e = .returned (.tuple #[]) ∧ Keep rb w1 w' ∧ RdAt w' rb (needSS 4 [41] s2) := fun s2 w1 h' => needSign_any s2 w1 rb ⟨#[41]⟩ h'
    have NO := fun ao n c w => node_any 9 ao n c w
    clear hm0 hm1 c1 g1 g2
    by_cases c2 : y.data.toList = cContains
    · rw [if_pos c2] at hm
      have f2 : (y.toList == [99, 111, 110, 116, 97, 105, 110, 115]) = true := by rw [ByteArray.toList_eq, c2]; rfl
      have hO : outS O = needSS 4 [41] (outS (E ts.tail)) := by rw [hm]; exact needSS_out [41] (fun z => eOp 9 [x, z]) (E ts.tail)
      have X : ∀ w1, RdAt w1 rb (some ts.tail) → Calls Tryz.prog 14 #[.pointer (some ⟨rb, 0, none⟩)] w1 (Res rb w1 (E ts.tail)) := fun w1 h' => HX (some ts.tail) w1 rb hst h'
      have hO2 : ∀ y' ts', O = some (y', ts') → ∃ z r', E ts.tail = some (z, r') ∧ y' = eOp 9 [x, z] := by
        intro y' ts' e
        rw [e] at hm
        cases hE : E ts.tail with
        | none => rw [hE] at hm; cases hm
        | some p =>
          rw [hE] at hm
          refine ⟨p.1, p.2, rfl, ?_⟩
          have hm' : some (y', ts') = (needS [41] p.2).map fun r => (eOp 9 [x, p.1], r) := hm
          cases hq : needS [41] p.2 with
          | none => rw [hq] at hm'; cases hm'
          | some q => rw [hq] at hm'; cases hm'; rfl
      have HO := hide hO
      have HO2 := hide hO2
      generalize E ts.tail = o2 at *
      generalize (some ts.tail : St) = s2 at *
      clear hm hO hO2 HX c2 hst
      go_enter Tryz.func95, Tryz.ntmps95
      go_wp2_with fail
      generalize (w.alloc _).alloc _ = w0 at *
      refine N.mono ?_
      rintro e w1 ⟨rfl, k1, r1⟩
      go_wp2_with fail
      refine (S _ r1).mono ?_
      rintro e w2 ⟨rfl, k2, r2⟩
      have k12 := k1.trans k2
      have Z3 := k12.kept hn3 z3
      have Z4 := k12.kept hn4 z4
      obtain ⟨u0, u1, u2, u3, u4, u5, u6, _⟩ := blk7 Z3
      have K2 := (Keep.of_below (rb := rb) b0).trans k12
      have hz4 : w.heap.size + 1 < w2.heap.size := (Array.getElem?_eq_some_iff.1 Z4).1
      have hd2 : ¬ w2.heap.size = w.heap.size := by omega
      have hd2a : ¬ w.heap.size = w2.heap.size := by omega
      go_upto_region 8 with fail
      go_cut [7] from 8 (fun s7 wc => ∃ (b7 ba : Nat), s7 = .pointer (some ⟨b7, 0, none⟩) ∧ Keep rb w wc ∧ RdAt wc rb (outS o2) ∧ b7 ≠ w.heap.size + 1 ∧ b7 ≠ rb ∧ wc.heap[b7]? = some (.cells #[.int .i64 9, .bool false, .int .i64 0, .string ⟨#[]⟩, .string ⟨#[]⟩, .string ⟨#[]⟩, .slice (some ⟨ba, 0, none⟩) 2 2] 28 (0, 0)) ∧ wc.heap[w.heap.size + 1]? = some (.cells #[.int .i64 0, .bool false, .int .i64 0, .string ⟨#[]⟩, .string ⟨#[]⟩, .string ⟨#[]⟩, .slice none 0 0] 28 (0, 0)) ∧
        Hid (∀ z ts, o2 = some (z, ts) → IsE wc (fun b => b ≠ b7 ∧ b ≠ w.heap.size + 1 ∧ b ≠ rb ∧ (P b ∨ w.heap.size ≤ b)) ⟨9, false, 0, ⟨#[]⟩, ⟨#[]⟩, ⟨#[]⟩, some ⟨ba, 0, none⟩, 2, 2⟩ (eOp 9 [x, z])))
      case first =>
        go_region_held (fun w' => w'.cell? ⟨w.heap.size, 0, none⟩ = some (.int .i64 r.k) ∧ w'.cell? ⟨w.heap.size, 1, none⟩ = some (.bool r.b) ∧ w'.cell? ⟨w.heap.size, 2, none⟩ = some (.int .i64 r.n) ∧ w'.cell? ⟨w.heap.size, 3, none⟩ = some (.string r.s) ∧ w'.cell? ⟨w.heap.size, 4, none⟩ = some (.string r.t) ∧ w'.cell? ⟨w.heap.size, 5, none⟩ = some (.string r.i) ∧ w'.cell? ⟨w.heap.size, 6, none⟩ = some (.slice r.lo r.ll r.lc)) (go_keep) (first
          | (go_at_call 14
             refine (X _ (by first | exact r2.drew | exact r2.drew.below (new1 _ _))).mono ?_
             rintro e w6 ⟨r', rfl, k6, r6, hE6⟩
             have HE6 := hide hE6
             clear hE6
             have Z36 := k6.kept hn3 (by first | exact Z3 | exact kept_of_below (new1 w2.drew _) Z3)
             obtain ⟨v0, v1, v2, v3, v4, v5, v6, _⟩ := blk7 Z36
             have hm6 : w.heap.size < w6.heap.size := (Array.getElem?_eq_some_iff.1 Z36).1
             have hd6 : ¬ w6.heap.size = w.heap.size := by omega
             have hd6a : ¬ w.heap.size = w6.heap.size := by omega
             have hd6b : ¬ w6.heap.size + 1 = w.heap.size := by omega
             have hd6c : ¬ w.heap.size = w6.heap.size + 1 := by omega
             try have Z76 := k6.kept (k := w2.heap.size) (by omega) (alloc_heap w2.drew (.cells #[.int .i64 0, .bool false, .int .i64 0, .string ⟨#[]⟩, .string ⟨#[]⟩, .string ⟨#[]⟩, .slice none 0 0] 28))
             unfold R7.val)
          | (go_at_call 24
             refine (NO _ _ _ _).mono ?_
             rintro e w8 ⟨rfl, b8⟩
             have Z38 := (kept_of_below b8 (by first | exact kept_of_below (new1 w6 _) Z36 | exact kept_of_below (new1 _ _) (kept_of_below (new1 w6 _) Z36)))
             obtain ⟨y0, y1, y2, y3, y4, y5, y6, _⟩ := blk7 Z38
             have hm8 : w.heap.size < w8.heap.size := (Array.getElem?_eq_some_iff.1 Z38).1
             have hd8 : ¬ w8.heap.size = w.heap.size := by omega
             have hd8a : ¬ w.heap.size = w8.heap.size := by omega
             first
               | (have Q8 := blk7 (kept_of_below b8 (kept_of_below (new1 w6 (arr2 r r')) Z76))
                  obtain ⟨q0, q1, q2, q3, q4, q5, q6, qf⟩ := Q8)
               | (have Q8 := blk7 (kept_of_below b8 (kept_of_below (new1 (w6.alloc (.cells #[.int .i64 0, .bool false, .int .i64 0, .string ⟨#[]⟩, .string ⟨#[]⟩, .string ⟨#[]⟩, .slice none 0 0] 28)) (arr2 r r')) (alloc_heap w6 (.cells #[.int .i64 0, .bool false, .int .i64 0, .string ⟨#[]⟩, .string ⟨#[]⟩, .string ⟨#[]⟩, .slice none 0 0] 28))))
                  obtain ⟨q0, q1, q2, q3, q4, q5, q6, qf⟩ := Q8)
               | (have Z78 := kept_of_below b8 (alloc_heap (w6.alloc (arr2 r r')) (.cells #[.int .i64 0, .bool false, .int .i64 0, .string ⟨#[]⟩, .string ⟨#[]⟩, .string ⟨#[]⟩, .slice none 0 0] 28))
                  simp only [World.alloc, Array.size_push] at Z78
                  obtain ⟨q0, q1, q2, q3, q4, q5, q6, qf⟩ := blk7 Z78)
               | skip))
        · go_wp2_with fail
          go_meet
          case rel =>
            have hz6 : w2.heap.size ≤ w6.heap.size := by
              first | exact k6.size | (have h : (w2.alloc (.cells #[.int .i64 0, .bool false, .int .i64 0, .string ⟨#[]⟩, .string ⟨#[]⟩, .string ⟨#[]⟩, .slice none 0 0] 28)).heap.size ≤ w6.heap.size := k6.size; rw [alloc_size] at h; exact Nat.le_of_succ_le h)
            have n7 := new1 w6 (arr2 r r')
            have b68 := n7.trans (b8.mono n7.size)
            have n9 := new1 w8 (.cells #[.int .i64 0, .bool false, .int .i64 0, .string ⟨#[]⟩, .string ⟨#[]⟩, .string ⟨#[]⟩, .slice none 0 0] 28)
            have M := made2 (w := w) (W0 := w2.drew) (w6 := w6) (w9 := w8.alloc (.cells #[.int .i64 0, .bool false, .int .i64 0, .string ⟨#[]⟩, .string ⟨#[]⟩, .string ⟨#[]⟩, .slice none 0 0] 28)) (ba := w6.heap.size) (b7 := w8.heap.size) (t4 := w.heap.size + 1) (P := P) (x := x) 9 K2.drew k6 r6 (unhide HE6) (b68.trans (n9.mono b68.size)) (kept_of_below n9 (kept_of_below b8 (alloc_heap w6 (arr2 r r')))) (by omega) (alloc_heap w8 (.cells #[.int .i64 0, .bool false, .int .i64 0, .string ⟨#[]⟩, .string ⟨#[]⟩, .string ⟨#[]⟩, .slice none 0 0] 28)) (.inr b68.size) (by have := (Array.getElem?_eq_some_iff.1 (kept_of_below b8 (alloc_heap w6 (arr2 r r')))).1; omega) hlt ⟨by omega, by first | exact hz4 | (show w.heap.size + 1 < (w2.alloc (.cells #[.int .i64 0, .bool false, .int .i64 0, .string ⟨#[]⟩, .string ⟨#[]⟩, .string ⟨#[]⟩, .slice none 0 0] 28)).heap.size; rw [alloc_size]; exact Nat.lt_succ_of_lt hz4)⟩ (unhide hx0) (unhide hP0) (.int .i64 9) (.bool false) (.int .i64 0) (.string ⟨#[]⟩) (.string ⟨#[]⟩) (.string ⟨#[]⟩) (.slice (some ⟨w6.heap.size, 0, none⟩) 2 2)
            rw [set7_new] at M
            have M4 := M.2.2.2.2.2.1 (w.heap.size + 1) _ Z4 hn4 (Ne.symm M.2.2.1)
            exact ⟨w8.heap.size, w6.heap.size, rfl, M.1, M.2.1, M.2.2.1, M.2.2.2.1, M.2.2.2.2.1, M4, hide M.2.2.2.2.2.2⟩
        · go_wp2_with fail
          go_meet
          case rel =>
            have hz6 : w2.heap.size ≤ w6.heap.size := by
              first | exact k6.size | (have h : (w2.alloc (.cells #[.int .i64 0, .bool false, .int .i64 0, .string ⟨#[]⟩, .string ⟨#[]⟩, .string ⟨#[]⟩, .slice none 0 0] 28)).heap.size ≤ w6.heap.size := k6.size; rw [alloc_size] at h; exact Nat.le_of_succ_le h)
            have n7 := new1 w6 (arr2 r r')
            have n8 := new1 (w6.alloc (arr2 r r')) (.cells #[.int .i64 0, .bool false, .int .i64 0, .string ⟨#[]⟩, .string ⟨#[]⟩, .string ⟨#[]⟩, .slice none 0 0] 28)
            have b78 := n7.trans (n8.mono n7.size)
            have b68 := b78.trans (b8.mono b78.size)
            have Z7x := kept_of_below b8 (alloc_heap (w6.alloc (arr2 r r')) (.cells #[.int .i64 0, .bool false, .int .i64 0, .string ⟨#[]⟩, .string ⟨#[]⟩, .string ⟨#[]⟩, .slice none 0 0] 28))
            simp only [World.alloc, Array.size_push] at Z7x
            have M := made2 (w := w) (W0 := w2.drew) (w6 := w6) (w9 := w8) (ba := w6.heap.size) (b7 := (w6.heap.size + 1)) (t4 := w.heap.size + 1) (P := P) (x := x) 9 K2.drew k6 r6 (unhide HE6) b68 (kept_of_below b8 (kept_of_below n8 (alloc_heap w6 (arr2 r r')))) (by omega) Z7x (.inr (by omega)) (by omega) hlt ⟨by omega, by first | exact hz4 | (show w.heap.size + 1 < (w2.alloc (.cells #[.int .i64 0, .bool false, .int .i64 0, .string ⟨#[]⟩, .string ⟨#[]⟩, .string ⟨#[]⟩, .slice none 0 0] 28)).heap.size; rw [alloc_size]; exact Nat.lt_succ_of_lt hz4)⟩ (unhide hx0) (unhide hP0) (.int .i64 9) (.bool false) (.int .i64 0) (.string ⟨#[]⟩) (.string ⟨#[]⟩) (.string ⟨#[]⟩) (.slice (some ⟨w6.heap.size, 0, none⟩) 2 2)
            have M4 := M.2.2.2.2.2.1 (w.heap.size + 1) _ Z4 hn4 (Ne.symm M.2.2.1)
            exact ⟨(w6.heap.size + 1), w6.heap.size, rfl, M.1, M.2.1, M.2.2.1, M.2.2.2.1, M.2.2.2.2.1, M4, hide M.2.2.2.2.2.2⟩
        · go_wp2_with fail
          go_meet
          case rel =>
            have hz6 : w2.heap.size ≤ w6.heap.size := by
              first | exact k6.size | (have h : (w2.alloc (.cells #[.int .i64 0, .bool false, .int .i64 0, .string ⟨#[]⟩, .string ⟨#[]⟩, .string ⟨#[]⟩, .slice none 0 0] 28)).heap.size ≤ w6.heap.size := k6.size; rw [alloc_size] at h; exact Nat.le_of_succ_le h)
            have n7 := new1 w6 (.cells #[.int .i64 0, .bool false, .int .i64 0, .string ⟨#[]⟩, .string ⟨#[]⟩, .string ⟨#[]⟩, .slice none 0 0] 28)
            have n8 := new1 (w6.alloc (.cells #[.int .i64 0, .bool false, .int .i64 0, .string ⟨#[]⟩, .string ⟨#[]⟩, .string ⟨#[]⟩, .slice none 0 0] 28)) (arr2 r r')
            have b78 := n7.trans (n8.mono n7.size)
            have b68 := b78.trans (b8.mono b78.size)
            have Z7x := kept_of_below b8 (alloc_heap (w6.alloc (.cells #[.int .i64 0, .bool false, .int .i64 0, .string ⟨#[]⟩, .string ⟨#[]⟩, .string ⟨#[]⟩, .slice none 0 0] 28)) (arr2 r r'))
            simp only [World.alloc, Array.size_push] at Z7x
            have M := made2 (w := w) (W0 := w2.drew) (w6 := w6) (w9 := w8) (ba := (w6.heap.size + 1)) (b7 := w6.heap.size) (t4 := w.heap.size + 1) (P := P) (x := x) 9 K2.drew k6 r6 (unhide HE6) b68 Z7x (by omega) (kept_of_below b8 (kept_of_below n8 (alloc_heap w6 (.cells #[.int .i64 0, .bool false, .int .i64 0, .string ⟨#[]⟩, .string ⟨#[]⟩, .string ⟨#[]⟩, .slice none 0 0] 28)))) (.inr (Nat.le_refl _)) (by omega) hlt ⟨by omega, by first | exact hz4 | (show w.heap.size + 1 < (w2.alloc (.cells #[.int .i64 0, .bool false, .int .i64 0, .string ⟨#[]⟩, .string ⟨#[]⟩, .string ⟨#[]⟩, .slice none 0 0] 28)).heap.size; rw [alloc_size]; exact Nat.lt_succ_of_lt hz4)⟩ (unhide hx0) (unhide hP0) (.int .i64 9) (.bool false) (.int .i64 0) (.string ⟨#[]⟩) (.string ⟨#[]⟩) (.string ⟨#[]⟩) (.slice (some ⟨(w6.heap.size + 1), 0, none⟩) 2 2)
            have M4 := M.2.2.2.2.2.1 (w.heap.size + 1) _ Z4 hn4 (Ne.symm M.2.2.1)
            exact ⟨w6.heap.size, (w6.heap.size + 1), rfl, M.1, M.2.1, M.2.2.1, M.2.2.2.1, M.2.2.2.2.1, M4, hide M.2.2.2.2.2.2⟩
        · go_wp2_with fail
          go_meet
          case rel =>
            have hz6 : w2.heap.size ≤ w6.heap.size := by
              first | exact k6.size | (have h : (w2.alloc (.cells #[.int .i64 0, .bool false, .int .i64 0, .string ⟨#[]⟩, .string ⟨#[]⟩, .string ⟨#[]⟩, .slice none 0 0] 28)).heap.size ≤ w6.heap.size := k6.size; rw [alloc_size] at h; exact Nat.le_of_succ_le h)
            have n7 := new1 w6 (arr2 r r')
            have b68 := n7.trans (b8.mono n7.size)
            have hz6b : w2.heap.size < w6.heap.size := by have h : (w2.alloc (.cells #[.int .i64 0, .bool false, .int .i64 0, .string ⟨#[]⟩, .string ⟨#[]⟩, .string ⟨#[]⟩, .slice none 0 0] 28)).heap.size ≤ w6.heap.size := k6.size; rw [alloc_size] at h; exact h
            have M := made2 (w := w) (W0 := (w2.drew.alloc (.cells #[.int .i64 0, .bool false, .int .i64 0, .string ⟨#[]⟩, .string ⟨#[]⟩, .string ⟨#[]⟩, .slice none 0 0] 28))) (w6 := w6) (w9 := w8) (ba := w6.heap.size) (b7 := w2.heap.size) (t4 := w.heap.size + 1) (P := P) (x := x) 9 (K2.drew.alloc _) k6 r6 (unhide HE6) b68 (kept_of_below b8 (alloc_heap w6 (arr2 r r'))) (by omega) (kept_of_below b8 (kept_of_below n7 Z76)) (.inl ⟨by omega, by show w2.heap.size < (w2.alloc (.cells #[.int .i64 0, .bool false, .int .i64 0, .string ⟨#[]⟩, .string ⟨#[]⟩, .string ⟨#[]⟩, .slice none 0 0] 28)).heap.size; rw [alloc_size]; exact Nat.lt_succ_self _, by omega⟩) (by omega) hlt ⟨by omega, by first | exact hz4 | (show w.heap.size + 1 < (w2.alloc (.cells #[.int .i64 0, .bool false, .int .i64 0, .string ⟨#[]⟩, .string ⟨#[]⟩, .string ⟨#[]⟩, .slice none 0 0] 28)).heap.size; rw [alloc_size]; exact Nat.lt_succ_of_lt hz4)⟩ (unhide hx0) (unhide hP0) (.int .i64 9) (.bool false) (.int .i64 0) (.string ⟨#[]⟩) (.string ⟨#[]⟩) (.string ⟨#[]⟩) (.slice (some ⟨w6.heap.size, 0, none⟩) 2 2)
            have M4 := M.2.2.2.2.2.1 (w.heap.size + 1) _ (kept_of_below (new1 w2.drew _) Z4) hn4 (Ne.symm M.2.2.1)
            exact ⟨w2.heap.size, w6.heap.size, rfl, M.1, M.2.1, M.2.2.1, M.2.2.2.1, M.2.2.2.2.1, M4, hide M.2.2.2.2.2.2⟩
      case rest =>
        obtain ⟨b7, ba, rfl, K9, R9, ne4, nerb, H7, H4, HI⟩ := hcut
        have HN := fun w1 h' => NS (outS o2) w1 h'
        go_wp2_with fail
        refine (HN _ R9).mono ?_
        rintro e w10 ⟨rfl, k10, r10⟩
        obtain ⟨a0, a1, a2, a3, a4, a5, a6, _⟩ := blk7 (k10.kept nerb H7)
        obtain ⟨x0, x1, x2, x3, x4, x5, x6, xf⟩ := blk7 (k10.kept hn4 H4)
        have K10 := K9.trans k10
        have HI2 : Hid (∀ y' ts', O = some (y', ts') → ∀ v0 v1 v2 v3 v4 v5 v6, IsE (set7 w10 (w.heap.size + 1) v0 v1 v2 v3 v4 v5 v6) (fun b => P b ∨ w.heap.size ≤ b) ⟨9, false, 0, ⟨#[]⟩, ⟨#[]⟩, ⟨#[]⟩, some ⟨ba, 0, none⟩, 2, 2⟩ y') := hide (by
          intro y' ts' hy' v0 v1 v2 v3 v4 v5 v6
          obtain ⟨z, r', hz, rfl⟩ := unhide HO2 y' ts' hy'
          refine IsE.turn (by rw [set7_size]; exact k10.size) (fun b hb hb2 => ⟨?_, hb.2.2.2⟩) _ _ (unhide HI z r' hz)
          rw [set7_heap _ _ _ _ _ _ _ _ _ _ hb.2.1]
          exact k10.block b hb2 hb.2.2.1)
        clear HN NS X NO
        go_wp2
        exact bodyPost_ret (v := R7.val ⟨9, false, 0, ⟨#[]⟩, ⟨#[]⟩, ⟨#[]⟩, some ⟨ba, 0, none⟩, 2, 2⟩) (by simp [results, Tryz.results95, go_sem, x0, x1, x2, x3, x4, x5, x6, R7.val]) rfl ⟨_, rfl, K10.set7 (by omega) _ _ _ _ _ _ _, by rw [unhide HO]; exact r10.set7 (by omega) _ _ _ _ _ _ _, fun y' ts' hy' => unhide HI2 y' ts' hy' _ _ _ _ _ _ _⟩
    · rw [if_neg c2] at hm
      have f2 : (y.toList == [99, 111, 110, 116, 97, 105, 110, 115]) = false := by rw [ByteArray.toList_eq, deq]; exact decide_eq_false c2
      have F := fun w' h' => fail_any (some ts.tail) w' rb h'
      obtain ⟨o2, ho2⟩ : ∃ o2 : Rs Ex, o2 = none := ⟨_, rfl⟩
      have hO : outS O = needSS 4 [41] (outS o2) := by rw [hm, ho2]; rfl
      have X : ∀ w1, RdAt w1 rb none → Calls Tryz.prog 14 #[.pointer (some ⟨rb, 0, none⟩)] w1 (Res rb w1 o2) := fun w1 h' => by rw [ho2]; exact HX none w1 rb (Nat.lt_of_le_of_lt (Nat.zero_le _) hst) h'
      have hO2 : ∀ y' ts', O = some (y', ts') → ∃ z r', o2 = some (z, r') ∧ y' = eOp 9 [x, z] := by
        intro y' ts' e
        rw [e] at hm
        cases hm
      have HO := hide hO
      have HO2 := hide hO2
      unfold rp at F
      generalize (some ts.tail : St) = s2 at *
      clear hm hO hO2 HX c2 hst ho2
      go_enter Tryz.func95, Tryz.ntmps95
      go_wp2_with fail
      generalize (w.alloc _).alloc _ = w0 at *
      refine N.mono ?_
      rintro e w1 ⟨rfl, k1, r1⟩
      go_wp2_with fail
      refine (S _ r1).mono ?_
      rintro e w2a ⟨rfl, k2a, r2a⟩
      go_wp2_with fail
      refine (F _ r2a).mono ?_
      rintro e w2 ⟨rfl, k2b, r2⟩
      have k12 := (k1.trans k2a).trans k2b
      have Z3 := k12.kept hn3 z3
      have Z4 := k12.kept hn4 z4
      obtain ⟨u0, u1, u2, u3, u4, u5, u6, _⟩ := blk7 Z3
      have K2 := (Keep.of_below (rb := rb) b0).trans k12
      have hz4 : w.heap.size + 1 < w2.heap.size := (Array.getElem?_eq_some_iff.1 Z4).1
      have hd2 : ¬ w2.heap.size = w.heap.size := by omega
      have hd2a : ¬ w.heap.size = w2.heap.size := by omega
      go_upto_region 8 with fail
      go_cut [7] from 8 (fun s7 wc => ∃ (b7 ba : Nat), s7 = .pointer (some ⟨b7, 0, none⟩) ∧ Keep rb w wc ∧ RdAt wc rb (outS o2) ∧ b7 ≠ w.heap.size + 1 ∧ b7 ≠ rb ∧ wc.heap[b7]? = some (.cells #[.int .i64 9, .bool false, .int .i64 0, .string ⟨#[]⟩, .string ⟨#[]⟩, .string ⟨#[]⟩, .slice (some ⟨ba, 0, none⟩) 2 2] 28 (0, 0)) ∧ wc.heap[w.heap.size + 1]? = some (.cells #[.int .i64 0, .bool false, .int .i64 0, .string ⟨#[]⟩, .string ⟨#[]⟩, .string ⟨#[]⟩, .slice none 0 0] 28 (0, 0)) ∧
        Hid (∀ z ts, o2 = some (z, ts) → IsE wc (fun b => b ≠ b7 ∧ b ≠ w.heap.size + 1 ∧ b ≠ rb ∧ (P b ∨ w.heap.size ≤ b)) ⟨9, false, 0, ⟨#[]⟩, ⟨#[]⟩, ⟨#[]⟩, some ⟨ba, 0, none⟩, 2, 2⟩ (eOp 9 [x, z])))
      case first =>
        go_region_held (fun w' => w'.cell? ⟨w.heap.size, 0, none⟩ = some (.int .i64 r.k) ∧ w'.cell? ⟨w.heap.size, 1, none⟩ = some (.bool r.b) ∧ w'.cell? ⟨w.heap.size, 2, none⟩ = some (.int .i64 r.n) ∧ w'.cell? ⟨w.heap.size, 3, none⟩ = some (.string r.s) ∧ w'.cell? ⟨w.heap.size, 4, none⟩ = some (.string r.t) ∧ w'.cell? ⟨w.heap.size, 5, none⟩ = some (.string r.i) ∧ w'.cell? ⟨w.heap.size, 6, none⟩ = some (.slice r.lo r.ll r.lc)) (go_keep) (first
          | (go_at_call 14
             refine (X _ (by first | exact r2.drew | exact r2.drew.below (new1 _ _))).mono ?_
             rintro e w6 ⟨r', rfl, k6, r6, hE6⟩
             have HE6 := hide hE6
             clear hE6
             have Z36 := k6.kept hn3 (by first | exact Z3 | exact kept_of_below (new1 w2.drew _) Z3)
             obtain ⟨v0, v1, v2, v3, v4, v5, v6, _⟩ := blk7 Z36
             have hm6 : w.heap.size < w6.heap.size := (Array.getElem?_eq_some_iff.1 Z36).1
             have hd6 : ¬ w6.heap.size = w.heap.size := by omega
             have hd6a : ¬ w.heap.size = w6.heap.size := by omega
             have hd6b : ¬ w6.heap.size + 1 = w.heap.size := by omega
             have hd6c : ¬ w.heap.size = w6.heap.size + 1 := by omega
             try have Z76 := k6.kept (k := w2.heap.size) (by omega) (alloc_heap w2.drew (.cells #[.int .i64 0, .bool false, .int .i64 0, .string ⟨#[]⟩, .string ⟨#[]⟩, .string ⟨#[]⟩, .slice none 0 0] 28))
             unfold R7.val)
          | (go_at_call 24
             refine (NO _ _ _ _).mono ?_
             rintro e w8 ⟨rfl, b8⟩
             have Z38 := (kept_of_below b8 (by first | exact kept_of_below (new1 w6 _) Z36 | exact kept_of_below (new1 _ _) (kept_of_below (new1 w6 _) Z36)))
             obtain ⟨y0, y1, y2, y3, y4, y5, y6, _⟩ := blk7 Z38
             have hm8 : w.heap.size < w8.heap.size := (Array.getElem?_eq_some_iff.1 Z38).1
             have hd8 : ¬ w8.heap.size = w.heap.size := by omega
             have hd8a : ¬ w.heap.size = w8.heap.size := by omega
             first
               | (have Q8 := blk7 (kept_of_below b8 (kept_of_below (new1 w6 (arr2 r r')) Z76))
                  obtain ⟨q0, q1, q2, q3, q4, q5, q6, qf⟩ := Q8)
               | (have Q8 := blk7 (kept_of_below b8 (kept_of_below (new1 (w6.alloc (.cells #[.int .i64 0, .bool false, .int .i64 0, .string ⟨#[]⟩, .string ⟨#[]⟩, .string ⟨#[]⟩, .slice none 0 0] 28)) (arr2 r r')) (alloc_heap w6 (.cells #[.int .i64 0, .bool false, .int .i64 0, .string ⟨#[]⟩, .string ⟨#[]⟩, .string ⟨#[]⟩, .slice none 0 0] 28))))
                  obtain ⟨q0, q1, q2, q3, q4, q5, q6, qf⟩ := Q8)
               | (have Z78 := kept_of_below b8 (alloc_heap (w6.alloc (arr2 r r')) (.cells #[.int .i64 0, .bool false, .int .i64 0, .string ⟨#[]⟩, .string ⟨#[]⟩, .string ⟨#[]⟩, .slice none 0 0] 28))
                  simp only [World.alloc, Array.size_push] at Z78
                  obtain ⟨q0, q1, q2, q3, q4, q5, q6, qf⟩ := blk7 Z78)
               | skip))
        · go_wp2_with fail
          go_meet
          case rel =>
            have hz6 : w2.heap.size ≤ w6.heap.size := by
              first | exact k6.size | (have h : (w2.alloc (.cells #[.int .i64 0, .bool false, .int .i64 0, .string ⟨#[]⟩, .string ⟨#[]⟩, .string ⟨#[]⟩, .slice none 0 0] 28)).heap.size ≤ w6.heap.size := k6.size; rw [alloc_size] at h; exact Nat.le_of_succ_le h)
            have n7 := new1 w6 (arr2 r r')
            have b68 := n7.trans (b8.mono n7.size)
            have n9 := new1 w8 (.cells #[.int .i64 0, .bool false, .int .i64 0, .string ⟨#[]⟩, .string ⟨#[]⟩, .string ⟨#[]⟩, .slice none 0 0] 28)
            have M := made2 (w := w) (W0 := w2.drew) (w6 := w6) (w9 := w8.alloc (.cells #[.int .i64 0, .bool false, .int .i64 0, .string ⟨#[]⟩, .string ⟨#[]⟩, .string ⟨#[]⟩, .slice none 0 0] 28)) (ba := w6.heap.size) (b7 := w8.heap.size) (t4 := w.heap.size + 1) (P := P) (x := x) 9 K2.drew k6 r6 (unhide HE6) (b68.trans (n9.mono b68.size)) (kept_of_below n9 (kept_of_below b8 (alloc_heap w6 (arr2 r r')))) (by omega) (alloc_heap w8 (.cells #[.int .i64 0, .bool false, .int .i64 0, .string ⟨#[]⟩, .string ⟨#[]⟩, .string ⟨#[]⟩, .slice none 0 0] 28)) (.inr b68.size) (by have := (Array.getElem?_eq_some_iff.1 (kept_of_below b8 (alloc_heap w6 (arr2 r r')))).1; omega) hlt ⟨by omega, by first | exact hz4 | (show w.heap.size + 1 < (w2.alloc (.cells #[.int .i64 0, .bool false, .int .i64 0, .string ⟨#[]⟩, .string ⟨#[]⟩, .string ⟨#[]⟩, .slice none 0 0] 28)).heap.size; rw [alloc_size]; exact Nat.lt_succ_of_lt hz4)⟩ (unhide hx0) (unhide hP0) (.int .i64 9) (.bool false) (.int .i64 0) (.string ⟨#[]⟩) (.string ⟨#[]⟩) (.string ⟨#[]⟩) (.slice (some ⟨w6.heap.size, 0, none⟩) 2 2)
            rw [set7_new] at M
            have M4 := M.2.2.2.2.2.1 (w.heap.size + 1) _ Z4 hn4 (Ne.symm M.2.2.1)
            exact ⟨w8.heap.size, w6.heap.size, rfl, M.1, M.2.1, M.2.2.1, M.2.2.2.1, M.2.2.2.2.1, M4, hide M.2.2.2.2.2.2⟩
        · go_wp2_with fail
          go_meet
          case rel =>
            have hz6 : w2.heap.size ≤ w6.heap.size := by
              first | exact k6.size | (have h : (w2.alloc (.cells #[.int .i64 0, .bool false, .int .i64 0, .string ⟨#[]⟩, .string ⟨#[]⟩, .string ⟨#[]⟩, .slice none 0 0] 28)).heap.size ≤ w6.heap.size := k6.size; rw [alloc_size] at h; exact Nat.le_of_succ_le h)
            have n7 := new1 w6 (arr2 r r')
            have n8 := new1 (w6.alloc (arr2 r r')) (.cells #[.int .i64 0, .bool false, .int .i64 0, .string ⟨#[]⟩, .string ⟨#[]⟩, .string ⟨#[]⟩, .slice none 0 0] 28)
            have b78 := n7.trans (n8.mono n7.size)
            have b68 := b78.trans (b8.mono b78.size)
            have Z7x := kept_of_below b8 (alloc_heap (w6.alloc (arr2 r r')) (.cells #[.int .i64 0, .bool false, .int .i64 0, .string ⟨#[]⟩, .string ⟨#[]⟩, .string ⟨#[]⟩, .slice none 0 0] 28))
            simp only [World.alloc, Array.size_push] at Z7x
            have M := made2 (w := w) (W0 := w2.drew) (w6 := w6) (w9 := w8) (ba := w6.heap.size) (b7 := (w6.heap.size + 1)) (t4 := w.heap.size + 1) (P := P) (x := x) 9 K2.drew k6 r6 (unhide HE6) b68 (kept_of_below b8 (kept_of_below n8 (alloc_heap w6 (arr2 r r')))) (by omega) Z7x (.inr (by omega)) (by omega) hlt ⟨by omega, by first | exact hz4 | (show w.heap.size + 1 < (w2.alloc (.cells #[.int .i64 0, .bool false, .int .i64 0, .string ⟨#[]⟩, .string ⟨#[]⟩, .string ⟨#[]⟩, .slice none 0 0] 28)).heap.size; rw [alloc_size]; exact Nat.lt_succ_of_lt hz4)⟩ (unhide hx0) (unhide hP0) (.int .i64 9) (.bool false) (.int .i64 0) (.string ⟨#[]⟩) (.string ⟨#[]⟩) (.string ⟨#[]⟩) (.slice (some ⟨w6.heap.size, 0, none⟩) 2 2)
            have M4 := M.2.2.2.2.2.1 (w.heap.size + 1) _ Z4 hn4 (Ne.symm M.2.2.1)
            exact ⟨(w6.heap.size + 1), w6.heap.size, rfl, M.1, M.2.1, M.2.2.1, M.2.2.2.1, M.2.2.2.2.1, M4, hide M.2.2.2.2.2.2⟩
        · go_wp2_with fail
          go_meet
          case rel =>
            have hz6 : w2.heap.size ≤ w6.heap.size := by
              first | exact k6.size | (have h : (w2.alloc (.cells #[.int .i64 0, .bool false, .int .i64 0, .string ⟨#[]⟩, .string ⟨#[]⟩, .string ⟨#[]⟩, .slice none 0 0] 28)).heap.size ≤ w6.heap.size := k6.size; rw [alloc_size] at h; exact Nat.le_of_succ_le h)
            have n7 := new1 w6 (.cells #[.int .i64 0, .bool false, .int .i64 0, .string ⟨#[]⟩, .string ⟨#[]⟩, .string ⟨#[]⟩, .slice none 0 0] 28)
            have n8 := new1 (w6.alloc (.cells #[.int .i64 0, .bool false, .int .i64 0, .string ⟨#[]⟩, .string ⟨#[]⟩, .string ⟨#[]⟩, .slice none 0 0] 28)) (arr2 r r')
            have b78 := n7.trans (n8.mono n7.size)
            have b68 := b78.trans (b8.mono b78.size)
            have Z7x := kept_of_below b8 (alloc_heap (w6.alloc (.cells #[.int .i64 0, .bool false, .int .i64 0, .string ⟨#[]⟩, .string ⟨#[]⟩, .string ⟨#[]⟩, .slice none 0 0] 28)) (arr2 r r'))
            simp only [World.alloc, Array.size_push] at Z7x
            have M := made2 (w := w) (W0 := w2.drew) (w6 := w6) (w9 := w8) (ba := (w6.heap.size + 1)) (b7 := w6.heap.size) (t4 := w.heap.size + 1) (P := P) (x := x) 9 K2.drew k6 r6 (unhide HE6) b68 Z7x (by omega) (kept_of_below b8 (kept_of_below n8 (alloc_heap w6 (.cells #[.int .i64 0, .bool false, .int .i64 0, .string ⟨#[]⟩, .string ⟨#[]⟩, .string ⟨#[]⟩, .slice none 0 0] 28)))) (.inr (Nat.le_refl _)) (by omega) hlt ⟨by omega, by first | exact hz4 | (show w.heap.size + 1 < (w2.alloc (.cells #[.int .i64 0, .bool false, .int .i64 0, .string ⟨#[]⟩, .string ⟨#[]⟩, .string ⟨#[]⟩, .slice none 0 0] 28)).heap.size; rw [alloc_size]; exact Nat.lt_succ_of_lt hz4)⟩ (unhide hx0) (unhide hP0) (.int .i64 9) (.bool false) (.int .i64 0) (.string ⟨#[]⟩) (.string ⟨#[]⟩) (.string ⟨#[]⟩) (.slice (some ⟨(w6.heap.size + 1), 0, none⟩) 2 2)
            have M4 := M.2.2.2.2.2.1 (w.heap.size + 1) _ Z4 hn4 (Ne.symm M.2.2.1)
            exact ⟨w6.heap.size, (w6.heap.size + 1), rfl, M.1, M.2.1, M.2.2.1, M.2.2.2.1, M.2.2.2.2.1, M4, hide M.2.2.2.2.2.2⟩
        · go_wp2_with fail
          go_meet
          case rel =>
            have hz6 : w2.heap.size ≤ w6.heap.size := by
              first | exact k6.size | (have h : (w2.alloc (.cells #[.int .i64 0, .bool false, .int .i64 0, .string ⟨#[]⟩, .string ⟨#[]⟩, .string ⟨#[]⟩, .slice none 0 0] 28)).heap.size ≤ w6.heap.size := k6.size; rw [alloc_size] at h; exact Nat.le_of_succ_le h)
            have n7 := new1 w6 (arr2 r r')
            have b68 := n7.trans (b8.mono n7.size)
            have hz6b : w2.heap.size < w6.heap.size := by have h : (w2.alloc (.cells #[.int .i64 0, .bool false, .int .i64 0, .string ⟨#[]⟩, .string ⟨#[]⟩, .string ⟨#[]⟩, .slice none 0 0] 28)).heap.size ≤ w6.heap.size := k6.size; rw [alloc_size] at h; exact h
            have M := made2 (w := w) (W0 := (w2.drew.alloc (.cells #[.int .i64 0, .bool false, .int .i64 0, .string ⟨#[]⟩, .string ⟨#[]⟩, .string ⟨#[]⟩, .slice none 0 0] 28))) (w6 := w6) (w9 := w8) (ba := w6.heap.size) (b7 := w2.heap.size) (t4 := w.heap.size + 1) (P := P) (x := x) 9 (K2.drew.alloc _) k6 r6 (unhide HE6) b68 (kept_of_below b8 (alloc_heap w6 (arr2 r r'))) (by omega) (kept_of_below b8 (kept_of_below n7 Z76)) (.inl ⟨by omega, by show w2.heap.size < (w2.alloc (.cells #[.int .i64 0, .bool false, .int .i64 0, .string ⟨#[]⟩, .string ⟨#[]⟩, .string ⟨#[]⟩, .slice none 0 0] 28)).heap.size; rw [alloc_size]; exact Nat.lt_succ_self _, by omega⟩) (by omega) hlt ⟨by omega, by first | exact hz4 | (show w.heap.size + 1 < (w2.alloc (.cells #[.int .i64 0, .bool false, .int .i64 0, .string ⟨#[]⟩, .string ⟨#[]⟩, .string ⟨#[]⟩, .slice none 0 0] 28)).heap.size; rw [alloc_size]; exact Nat.lt_succ_of_lt hz4)⟩ (unhide hx0) (unhide hP0) (.int .i64 9) (.bool false) (.int .i64 0) (.string ⟨#[]⟩) (.string ⟨#[]⟩) (.string ⟨#[]⟩) (.slice (some ⟨w6.heap.size, 0, none⟩) 2 2)
            have M4 := M.2.2.2.2.2.1 (w.heap.size + 1) _ (kept_of_below (new1 w2.drew _) Z4) hn4 (Ne.symm M.2.2.1)
            exact ⟨w2.heap.size, w6.heap.size, rfl, M.1, M.2.1, M.2.2.1, M.2.2.2.1, M.2.2.2.2.1, M4, hide M.2.2.2.2.2.2⟩
      case rest =>
        obtain ⟨b7, ba, rfl, K9, R9, ne4, nerb, H7, H4, HI⟩ := hcut
        have HN := fun w1 h' => NS (outS o2) w1 h'
        go_wp2_with fail
        refine (HN _ R9).mono ?_
        rintro e w10 ⟨rfl, k10, r10⟩
        obtain ⟨a0, a1, a2, a3, a4, a5, a6, _⟩ := blk7 (k10.kept nerb H7)
        obtain ⟨x0, x1, x2, x3, x4, x5, x6, xf⟩ := blk7 (k10.kept hn4 H4)
        have K10 := K9.trans k10
        have HI2 : Hid (∀ y' ts', O = some (y', ts') → ∀ v0 v1 v2 v3 v4 v5 v6, IsE (set7 w10 (w.heap.size + 1) v0 v1 v2 v3 v4 v5 v6) (fun b => P b ∨ w.heap.size ≤ b) ⟨9, false, 0, ⟨#[]⟩, ⟨#[]⟩, ⟨#[]⟩, some ⟨ba, 0, none⟩, 2, 2⟩ y') := hide (by
          intro y' ts' hy' v0 v1 v2 v3 v4 v5 v6
          obtain ⟨z, r', hz, rfl⟩ := unhide HO2 y' ts' hy'
          refine IsE.turn (by rw [set7_size]; exact k10.size) (fun b hb hb2 => ⟨?_, hb.2.2.2⟩) _ _ (unhide HI z r' hz)
          rw [set7_heap _ _ _ _ _ _ _ _ _ _ hb.2.1]
          exact k10.block b hb2 hb.2.2.1)
        clear HN NS X NO
        go_wp2
        exact bodyPost_ret (v := R7.val ⟨9, false, 0, ⟨#[]⟩, ⟨#[]⟩, ⟨#[]⟩, some ⟨ba, 0, none⟩, 2, 2⟩) (by simp [results, Tryz.results95, go_sem, x0, x1, x2, x3, x4, x5, x6, R7.val]) rfl ⟨_, rfl, K10.set7 (by omega) _ _ _ _ _ _ _, by rw [unhide HO]; exact r10.set7 (by omega) _ _ _ _ _ _ _, fun y' ts' hy' => unhide HI2 y' ts' hy' _ _ _ _ _ _ _⟩
end Go.Proofs.YtlakgnnjokienaaGreatDoor
