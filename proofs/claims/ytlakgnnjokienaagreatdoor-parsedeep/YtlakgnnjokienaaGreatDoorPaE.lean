/-
  parse's reader: leaves.
-/
import Derived.Test.YtlakgnnjokienaaGreatDoorPaD
namespace Go.Proofs.YtlakgnnjokienaaGreatDoor
open Go.RowKit

def set7 (w : World) (b : Nat) (v0 v1 v2 v3 v4 v5 v6 : Value) : World :=
  ((((((w.setCell ⟨b, 0, none⟩ v0).setCell ⟨b, 1, none⟩ v1).setCell ⟨b, 2, none⟩ v2).setCell ⟨b, 3, none⟩ v3).setCell ⟨b, 4, none⟩ v4).setCell ⟨b, 5, none⟩ v5).setCell ⟨b, 6, none⟩ v6
theorem Keep.set7 {rb b : Nat} {a w : World} (h : Keep rb a w) (hb : a.heap.size ≤ b) (v0 v1 v2 v3 v4 v5 v6 : Value) : Keep rb a (set7 w b v0 v1 v2 v3 v4 v5 v6) :=
  ((((((h.setCell (p := ⟨b, 0, none⟩) (.inr hb) _).setCell (p := ⟨b, 1, none⟩) (.inr hb) _).setCell (p := ⟨b, 2, none⟩) (.inr hb) _).setCell (p := ⟨b, 3, none⟩) (.inr hb) _).setCell (p := ⟨b, 4, none⟩) (.inr hb) _).setCell (p := ⟨b, 5, none⟩) (.inr hb) _).setCell (p := ⟨b, 6, none⟩) (.inr hb) _
theorem RdAt.set7 {rb b : Nat} {st : St} {w : World} (h : RdAt w rb st) (hb : rb < b) (v0 v1 v2 v3 v4 v5 v6 : Value) : RdAt (set7 w b v0 v1 v2 v3 v4 v5 v6) rb st :=
  ((((((h.setCell (p := ⟨b, 0, none⟩) hb _).setCell (p := ⟨b, 1, none⟩) hb _).setCell (p := ⟨b, 2, none⟩) hb _).setCell (p := ⟨b, 3, none⟩) hb _).setCell (p := ⟨b, 4, none⟩) hb _).setCell (p := ⟨b, 5, none⟩) hb _).setCell (p := ⟨b, 6, none⟩) hb _
theorem set7_heap (w : World) (b k : Nat) (v0 v1 v2 v3 v4 v5 v6 : Value) (h : k ≠ b) : (set7 w b v0 v1 v2 v3 v4 v5 v6).heap[k]? = w.heap[k]? := by
  unfold Go.Proofs.YtlakgnnjokienaaGreatDoor.set7
  rw [Below.heap_setCell _ _ _ _ h, Below.heap_setCell _ _ _ _ h, Below.heap_setCell _ _ _ _ h, Below.heap_setCell _ _ _ _ h, Below.heap_setCell _ _ _ _ h, Below.heap_setCell _ _ _ _ h, Below.heap_setCell _ _ _ _ h]
theorem set7_at {w : World} {b : Nat} {u0 u1 u2 u3 u4 u5 u6 : Value} {T : TypeId} (h : w.heap[b]? = some (.cells #[u0, u1, u2, u3, u4, u5, u6] T (0, 0))) (v0 v1 v2 v3 v4 v5 v6 : Value) :
    (set7 w b v0 v1 v2 v3 v4 v5 v6).heap[b]? = some (.cells #[v0, v1, v2, v3, v4, v5, v6] T (0, 0)) := by
  simp [Go.Proofs.YtlakgnnjokienaaGreatDoor.set7, World.setCell, Array.getElem?_modify, h]
theorem set7_size (w : World) (b : Nat) (v0 v1 v2 v3 v4 v5 v6 : Value) : (set7 w b v0 v1 v2 v3 v4 v5 v6).heap.size = w.heap.size := by
  simp [Go.Proofs.YtlakgnnjokienaaGreatDoor.set7, World.setCell]

def outS (o : Rs Ex) : St := o.map (·.2)
/-- What a rule's function does: it answers the tree that the rule reads, or anything, and is stuck. -/
def Res (rb : Nat) (w : World) (o : Rs Ex) (e : Ending) (w' : World) : Prop :=
  ∃ r : R7, e = .returned r.val ∧ Keep rb w w' ∧ RdAt w' rb (outS o) ∧ ∀ x ts, o = some (x, ts) → IsE w' (fun b => w.heap.size ≤ b) r x
def Does (f : Nat) (E : Pr Ex) (n : Nat) : Prop :=
  ∀ (st : St) (w : World) (rb : Nat), stLen st < n → RdAt w rb st → Calls Tryz.prog f #[rp rb] w (Res rb w (st.bind E))

theorem isE_long (w : World) (P : Nat → Prop) (n : Int) : IsE w P ⟨2, false, n, ⟨#[]⟩, ⟨#[]⟩, ⟨#[]⟩, none, 0, 0⟩ (eLong n) := by unfold eLong IsE IsEs; simp [ba]
theorem isE_str (w : World) (P : Nat → Prop) (s : List UInt8) : IsE w P ⟨3, false, 0, ⟨s.toArray⟩, ⟨#[]⟩, ⟨#[]⟩, none, 0, 0⟩ (eStr s) := by unfold eStr IsE IsEs; simp [ba]
theorem isE_bool (w : World) (P : Nat → Prop) (b : Bool) : IsE w P ⟨1, b, 0, ⟨#[]⟩, ⟨#[]⟩, ⟨#[]⟩, none, 0, 0⟩ (eBool b) := by unfold eBool IsE IsEs; simp [ba]
theorem isE_var (w : World) (P : Nat → Prop) (s : List UInt8) : IsE w P ⟨5, false, 0, ⟨s.toArray⟩, ⟨#[]⟩, ⟨#[]⟩, none, 0, 0⟩ (eVar s) := by unfold eVar IsE IsEs; simp [ba]
theorem isE_uid (w : World) (P : Nat → Prop) (t i : List UInt8) : IsE w P ⟨4, false, 0, ⟨#[]⟩, ⟨t.toArray⟩, ⟨i.toArray⟩, none, 0, 0⟩ (eUid t i) := by unfold eUid IsE IsEs; simp [ba]

theorem deq (l x : List UInt8) : (l == x) = decide (l = x) := by
  by_cases e : l = x
  · simp [e]
  · simp [e]

set_option maxHeartbeats 400000 in
set_option maxRecDepth 1000000 in
theorem isVariable_any (y : ByteArray) (w : World) :
    Calls Tryz.prog 72 #[.string y] w fun e w' => e = .returned (.bool (isVar y.data.toList)) ∧ w' = w := by
  have e : isVar y.data.toList = ((y.toList == [112, 114, 105, 110, 99, 105, 112, 97, 108]) || ((y.toList == [97, 99, 116, 105, 111, 110]) || (y.toList == [114, 101, 115, 111, 117, 114, 99, 101]))) := by
    rw [ByteArray.toList_eq, deq, deq, deq]
    rfl
  rw [e]
  clear e
  go_enter Tryz.func72, Tryz.ntmps72
  go_wp2
  all_goals (go_ret; exact ⟨by simp [*, Bool.or_assoc], rfl⟩)

theorem needSt_ok {k : Int} {st : St} (hk : k ≠ 0) (h : (hdS st 0).k = k) : ∃ ts, st = some ts ∧ need k ts = some (needTok k st, ts.tail) ∧ needSt k st = some ts.tail := by
  cases st with
  | none => exact absurd h.symm hk
  | some ts =>
    have h' : (hd ts 0).k = k := h
    refine ⟨ts, rfl, ?_, ?_⟩
    · rw [need, if_pos h', needTok, if_pos h]
      rfl
    · rw [needSt, if_pos h]
      rfl
theorem needSt_no {k : Int} {st : St} (h : ¬ (hdS st 0).k = k) : needTok k st = tok0 ∧ needSt k st = none ∧ ∀ ts, st = some ts → need k ts = none :=
  ⟨by rw [needTok, if_neg h], by rw [needSt, if_neg h], fun ts e => by subst e; exact if_neg h⟩
/-- A rule that begins with a token of this kind. -/
theorem bind_none {α β : Type} {st : Option α} {E : α → Option β} (h : ∀ ts, st = some ts → E ts = none) : st.bind E = none := by
  cases st with
  | none => rfl
  | some ts => exact h ts rfl

set_option maxHeartbeats 2000000 in
set_option maxRecDepth 1000000 in
theorem worded_does (n : Nat) : Does 103 wordedP n := by
  intro st w rb _ h
  have hlt := h.lt
  have b0 := below2 w (.cells #[.int .i64 0, .bool false, .int .i64 0, .string ⟨#[]⟩, .string ⟨#[]⟩, .string ⟨#[]⟩, .slice none 0 0] 28) (.cells #[.int .i64 0, .bool false, .int .i64 0, .string ⟨#[]⟩, .string ⟨#[]⟩, .string ⟨#[]⟩, .slice none 0 0] 28)
  have N := name_any st _ rb (h.below b0)
  have F := fun w' h' => fail_any (needSt 1 st) w' rb h'
  obtain ⟨y, hy⟩ : ∃ y : ByteArray, y = ⟨(needTok 1 st).s.toArray⟩ := ⟨_, rfl⟩
  have hyl : y.data.toList = (needTok 1 st).s := by rw [hy]
  rw [← hy] at N
  have V := fun w' => isVariable_any y w'
  have e0 : ∀ a r, (∃ ts, st = some ts ∧ need 1 ts = some (a, r)) → st.bind wordedP = wordOf a.s r := by
    rintro a r ⟨ts, rfl, hn⟩
    show wordedP ts = _
    unfold wordedP
    rw [hn]
    rfl
  have e1 : (needSt 1 st = none ∧ st.bind wordedP = none ∧ (needTok 1 st).s = []) ∨ ∃ r, needSt 1 st = some r ∧ st.bind wordedP = wordOf (needTok 1 st).s r := by
    by_cases hk : (hdS st 0).k = 1
    · obtain ⟨ts, hs, h1, h2⟩ := needSt_ok (by decide) hk
      exact .inr ⟨ts.tail, h2, e0 _ _ ⟨ts, hs, h1⟩⟩
    · obtain ⟨h1, h2, h3⟩ := needSt_no hk
      exact .inl ⟨h2, bind_none fun ts hs => by unfold wordedP; rw [h3 ts hs]; rfl, by rw [h1]; rfl⟩
  rw [← hyl] at e1
  clear e0 hy hyl
  have z0 : ((w.alloc (.cells #[.int .i64 0, .bool false, .int .i64 0, .string ⟨#[]⟩, .string ⟨#[]⟩, .string ⟨#[]⟩, .slice none 0 0] 28)).alloc (.cells #[.int .i64 0, .bool false, .int .i64 0, .string ⟨#[]⟩, .string ⟨#[]⟩, .string ⟨#[]⟩, .slice none 0 0] 28)).heap[w.heap.size]? = some (.cells #[.int .i64 0, .bool false, .int .i64 0, .string ⟨#[]⟩, .string ⟨#[]⟩, .string ⟨#[]⟩, .slice none 0 0] 28 (0, 0)) := kept_of_below (new1 _ _) (alloc_heap _ _)
  have z1 : ((w.alloc (.cells #[.int .i64 0, .bool false, .int .i64 0, .string ⟨#[]⟩, .string ⟨#[]⟩, .string ⟨#[]⟩, .slice none 0 0] 28)).alloc (.cells #[.int .i64 0, .bool false, .int .i64 0, .string ⟨#[]⟩, .string ⟨#[]⟩, .string ⟨#[]⟩, .slice none 0 0] 28)).heap[w.heap.size + 1]? = some (.cells #[.int .i64 0, .bool false, .int .i64 0, .string ⟨#[]⟩, .string ⟨#[]⟩, .string ⟨#[]⟩, .slice none 0 0] 28 (0, 0)) := by
    have := alloc_heap (w.alloc (.cells #[.int .i64 0, .bool false, .int .i64 0, .string ⟨#[]⟩, .string ⟨#[]⟩, .string ⟨#[]⟩, .slice none 0 0] 28)) (.cells #[.int .i64 0, .bool false, .int .i64 0, .string ⟨#[]⟩, .string ⟨#[]⟩, .string ⟨#[]⟩, .slice none 0 0] 28)
    simpa using this
  have hn0 : w.heap.size ≠ rb := by omega
  have hn1 : w.heap.size + 1 ≠ rb := by omega
  unfold rp at N F ⊢
  by_cases c1 : y.data.toList = cTrue
  · have k1 : (y.toList == [116, 114, 117, 101]) = true := by rw [ByteArray.toList_eq, c1]; rfl
    obtain ⟨r, h1, h2⟩ : ∃ r, needSt 1 st = some r ∧ st.bind wordedP = some (eBool true, r) := by
      rcases e1 with ⟨_, _, h3⟩ | ⟨r, h1, h2⟩
      · rw [c1] at h3; cases h3
      · exact ⟨r, h1, by rw [h2, wordOf, if_pos c1]⟩
    rw [h2]
    rw [h1] at N
    clear e1 c1 h1 h2 F V
    go_enter Tryz.func103, Tryz.ntmps103
    go_wp2_with fail
    generalize (w.alloc _).alloc _ = w0 at *
    refine N.mono ?_
    rintro e w1 ⟨rfl, k1, r1⟩
    have K1 := (Keep.of_below (rb := rb) b0).trans k1
    have z0 := k1.kept hn0 z0
    have z1 := k1.kept hn1 z1
    obtain ⟨u0, u1, u2, u3, u4, u5, u6, uf⟩ := blk7 z1
    have K2 := ((K1.setCell (p := ⟨w.heap.size + 1, 1, none⟩) (.inr (by show w.heap.size ≤ w.heap.size + 1; omega)) (.bool true)).setCell (p := ⟨w.heap.size + 1, 0, none⟩) (.inr (by show w.heap.size ≤ w.heap.size + 1; omega)) (.int .i64 1))
    have R2 := ((r1.setCell (p := ⟨w.heap.size + 1, 1, none⟩) (by show rb < w.heap.size + 1; omega) (.bool true)).setCell (p := ⟨w.heap.size + 1, 0, none⟩) (by show rb < w.heap.size + 1; omega) (.int .i64 1))
    have Y1 : ((w1.setCell ⟨w.heap.size + 1, 1, none⟩ (.bool true)).setCell ⟨w.heap.size + 1, 0, none⟩ (.int .i64 1)).heap[w.heap.size + 1]? = some (.cells #[.int .i64 1, .bool true, .int .i64 0, .string ⟨#[]⟩, .string ⟨#[]⟩, .string ⟨#[]⟩, .slice none 0 0] 28 (0, 0)) := by simp [World.setCell, Array.getElem?_modify, z1]
    have Y0 : ((w1.setCell ⟨w.heap.size + 1, 1, none⟩ (.bool true)).setCell ⟨w.heap.size + 1, 0, none⟩ (.int .i64 1)).heap[w.heap.size]? = some (.cells #[.int .i64 0, .bool false, .int .i64 0, .string ⟨#[]⟩, .string ⟨#[]⟩, .string ⟨#[]⟩, .slice none 0 0] 28 (0, 0)) := by simp [World.setCell, Array.getElem?_modify, z0]
    go_upto_region 10 with fail
    generalize World.setCell _ _ _ = w2 at *
    clear u0 u1 u2 u3 u4 u5 u6 uf z0 z1
    obtain ⟨u0, u1, u2, u3, u4, u5, u6, _⟩ := blk7 Y1
    obtain ⟨x0, x1, x2, x3, x4, x5, x6, xf⟩ := blk7 Y0
    go_wp2
    exact bodyPost_ret (v := R7.val ⟨1, true, 0, ⟨#[]⟩, ⟨#[]⟩, ⟨#[]⟩, none, 0, 0⟩) (by simp [results, Tryz.results103, go_sem, x0, x1, x2, x3, x4, x5, x6, R7.val]) rfl ⟨⟨1, true, 0, ⟨#[]⟩, ⟨#[]⟩, ⟨#[]⟩, none, 0, 0⟩, rfl, K2.set7 (Nat.le_refl _) _ _ _ _ _ _ _, R2.set7 hlt _ _ _ _ _ _ _, fun x ts hx => by cases hx; exact isE_bool _ _ true⟩
  have f1 : (y.toList == [116, 114, 117, 101]) = false := by rw [ByteArray.toList_eq, deq]; exact decide_eq_false c1
  by_cases c2 : y.data.toList = cFalse
  · have k1 : (y.toList == [102, 97, 108, 115, 101]) = true := by rw [ByteArray.toList_eq, c2]; rfl
    obtain ⟨r, h1, h2⟩ : ∃ r, needSt 1 st = some r ∧ st.bind wordedP = some (eBool false, r) := by
      rcases e1 with ⟨_, _, h3⟩ | ⟨r, h1, h2⟩
      · rw [c2] at h3; cases h3
      · exact ⟨r, h1, by rw [h2, wordOf, if_neg c1, if_pos c2]⟩
    rw [h2]
    rw [h1] at N
    clear e1 c1 c2 h1 h2 F V
    go_enter Tryz.func103, Tryz.ntmps103
    go_wp2_with fail
    generalize (w.alloc _).alloc _ = w0 at *
    refine N.mono ?_
    rintro e w1 ⟨rfl, k1, r1⟩
    have K1 := (Keep.of_below (rb := rb) b0).trans k1
    have z0 := k1.kept hn0 z0
    have z1 := k1.kept hn1 z1
    obtain ⟨u0, u1, u2, u3, u4, u5, u6, uf⟩ := blk7 z1
    have K2 := (K1.setCell (p := ⟨w.heap.size + 1, 0, none⟩) (.inr (by show w.heap.size ≤ w.heap.size + 1; omega)) (.int .i64 1))
    have R2 := (r1.setCell (p := ⟨w.heap.size + 1, 0, none⟩) (by show rb < w.heap.size + 1; omega) (.int .i64 1))
    have Y1 : (w1.setCell ⟨w.heap.size + 1, 0, none⟩ (.int .i64 1)).heap[w.heap.size + 1]? = some (.cells #[.int .i64 1, .bool false, .int .i64 0, .string ⟨#[]⟩, .string ⟨#[]⟩, .string ⟨#[]⟩, .slice none 0 0] 28 (0, 0)) := by simp [World.setCell, Array.getElem?_modify, z1]
    have Y0 : (w1.setCell ⟨w.heap.size + 1, 0, none⟩ (.int .i64 1)).heap[w.heap.size]? = some (.cells #[.int .i64 0, .bool false, .int .i64 0, .string ⟨#[]⟩, .string ⟨#[]⟩, .string ⟨#[]⟩, .slice none 0 0] 28 (0, 0)) := by simp [World.setCell, Array.getElem?_modify, z0]
    go_upto_region 10 with fail
    generalize World.setCell _ _ _ = w2 at *
    clear u0 u1 u2 u3 u4 u5 u6 uf z0 z1
    obtain ⟨u0, u1, u2, u3, u4, u5, u6, _⟩ := blk7 Y1
    obtain ⟨x0, x1, x2, x3, x4, x5, x6, xf⟩ := blk7 Y0
    go_wp2
    exact bodyPost_ret (v := R7.val ⟨1, false, 0, ⟨#[]⟩, ⟨#[]⟩, ⟨#[]⟩, none, 0, 0⟩) (by simp [results, Tryz.results103, go_sem, x0, x1, x2, x3, x4, x5, x6, R7.val]) rfl ⟨⟨1, false, 0, ⟨#[]⟩, ⟨#[]⟩, ⟨#[]⟩, none, 0, 0⟩, rfl, K2.set7 (Nat.le_refl _) _ _ _ _ _ _ _, R2.set7 hlt _ _ _ _ _ _ _, fun x ts hx => by cases hx; exact isE_bool _ _ false⟩
  have f2 : (y.toList == [102, 97, 108, 115, 101]) = false := by rw [ByteArray.toList_eq, deq]; exact decide_eq_false c2
  cases c3 : isVar y.data.toList with
  | true =>
    obtain ⟨r, h1, h2⟩ : ∃ r, needSt 1 st = some r ∧ st.bind wordedP = some (eVar y.data.toList, r) := by
      rcases e1 with ⟨_, _, h3⟩ | ⟨r, h1, h2⟩
      · rw [h3] at c3; cases c3
      · exact ⟨r, h1, by rw [h2, wordOf, if_neg c1, if_neg c2, if_pos c3]⟩
    rw [h2]
    rw [h1] at N
    rw [c3] at V
    clear e1 c1 c2 c3 h1 h2 F
    go_enter Tryz.func103, Tryz.ntmps103
    go_wp2_with fail
    generalize (w.alloc _).alloc _ = w0 at *
    refine N.mono ?_
    rintro e w1 ⟨rfl, k1, r1⟩
    have K1 := (Keep.of_below (rb := rb) b0).trans k1
    have z0 := k1.kept hn0 z0
    have z1 := k1.kept hn1 z1
    obtain ⟨u0, u1, u2, u3, u4, u5, u6, uf⟩ := blk7 z1
    go_wp2_with fail
    refine (V _).mono ?_
    rintro e w1' ⟨rfl, rfl⟩
    have K2 := ((K1.setCell (p := ⟨w.heap.size + 1, 0, none⟩) (.inr (by show w.heap.size ≤ w.heap.size + 1; omega)) (.int .i64 5)).setCell (p := ⟨w.heap.size + 1, 3, none⟩) (.inr (by show w.heap.size ≤ w.heap.size + 1; omega)) (.string y))
    have R2 := ((r1.setCell (p := ⟨w.heap.size + 1, 0, none⟩) (by show rb < w.heap.size + 1; omega) (.int .i64 5)).setCell (p := ⟨w.heap.size + 1, 3, none⟩) (by show rb < w.heap.size + 1; omega) (.string y))
    have Y1 : ((w1'.setCell ⟨w.heap.size + 1, 0, none⟩ (.int .i64 5)).setCell ⟨w.heap.size + 1, 3, none⟩ (.string y)).heap[w.heap.size + 1]? = some (.cells #[.int .i64 5, .bool false, .int .i64 0, .string y, .string ⟨#[]⟩, .string ⟨#[]⟩, .slice none 0 0] 28 (0, 0)) := by simp [World.setCell, Array.getElem?_modify, z1]
    have Y0 : ((w1'.setCell ⟨w.heap.size + 1, 0, none⟩ (.int .i64 5)).setCell ⟨w.heap.size + 1, 3, none⟩ (.string y)).heap[w.heap.size]? = some (.cells #[.int .i64 0, .bool false, .int .i64 0, .string ⟨#[]⟩, .string ⟨#[]⟩, .string ⟨#[]⟩, .slice none 0 0] 28 (0, 0)) := by simp [World.setCell, Array.getElem?_modify, z0]
    go_upto_region 10 with fail
    generalize World.setCell _ _ _ = w2 at *
    clear u0 u1 u2 u3 u4 u5 u6 uf z0 z1
    obtain ⟨u0, u1, u2, u3, u4, u5, u6, _⟩ := blk7 Y1
    obtain ⟨x0, x1, x2, x3, x4, x5, x6, xf⟩ := blk7 Y0
    go_wp2
    exact bodyPost_ret (v := R7.val ⟨5, false, 0, y, ⟨#[]⟩, ⟨#[]⟩, none, 0, 0⟩) (by simp [results, Tryz.results103, go_sem, x0, x1, x2, x3, x4, x5, x6, R7.val]) rfl ⟨⟨5, false, 0, y, ⟨#[]⟩, ⟨#[]⟩, none, 0, 0⟩, rfl, K2.set7 (Nat.le_refl _) _ _ _ _ _ _ _, R2.set7 hlt _ _ _ _ _ _ _, fun x ts hx => by cases hx; exact isE_var _ _ _⟩
  | false =>
    have h2 : st.bind wordedP = none := by
      rcases e1 with ⟨_, h3, _⟩ | ⟨r, h1, h2⟩
      · exact h3
      · rw [h2, wordOf, if_neg c1, if_neg c2, if_neg (by rw [c3]; simp)]
    rw [h2]
    rw [c3] at V
    clear e1 c1 c2 c3 h2
    go_enter Tryz.func103, Tryz.ntmps103
    go_wp2_with fail
    generalize (w.alloc _).alloc _ = w0 at *
    refine N.mono ?_
    rintro e w1 ⟨rfl, k1, r1⟩
    have K1 := (Keep.of_below (rb := rb) b0).trans k1
    have z0 := k1.kept hn0 z0
    have z1 := k1.kept hn1 z1
    obtain ⟨u0, u1, u2, u3, u4, u5, u6, uf⟩ := blk7 z1
    go_wp2_with fail
    refine (V _).mono ?_
    rintro e w1' ⟨rfl, rfl⟩
    go_wp2_with fail
    refine (F _ r1).mono ?_
    rintro e w2 ⟨rfl, k2, r2⟩
    have K2 := K1.trans k2
    have Y1 := k2.kept hn1 z1
    have Y0 := k2.kept hn0 z0
    clear u0 u1 u2 u3 u4 u5 u6 uf z0 z1
    obtain ⟨u0, u1, u2, u3, u4, u5, u6, _⟩ := blk7 Y1
    obtain ⟨x0, x1, x2, x3, x4, x5, x6, xf⟩ := blk7 Y0
    go_wp2
    exact bodyPost_ret (v := R7.val ⟨0, false, 0, ⟨#[]⟩, ⟨#[]⟩, ⟨#[]⟩, none, 0, 0⟩) (by simp [results, Tryz.results103, go_sem, x0, x1, x2, x3, x4, x5, x6, R7.val]) rfl ⟨_, rfl, K2.set7 (Nat.le_refl _) _ _ _ _ _ _ _, r2.set7 hlt _ _ _ _ _ _ _, fun x ts hx => by cases hx⟩
end Go.Proofs.YtlakgnnjokienaaGreatDoor
