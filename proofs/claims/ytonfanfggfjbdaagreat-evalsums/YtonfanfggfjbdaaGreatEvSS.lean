/-
  chancellaw13.EvalSums, plain: sums, and what stands about them.
  chancellaw13.EvalSums: the walk.
-/
import Derived.Test.YtonfanfggfjbdaaGreatEvS
import Derived.Test.YtonfanfggfjbdaaGreatGdA
import Derived.Test.YtonfanfggfjbdaaGreatValEq
import Derived.Deep.CutBlock
namespace Go.Proofs.YtonfanfggfjbdaaGreat
open Go.RowKit Go.Sort

def sumT (k a b : Int) : Ex := .mk k false 0 [] [] [] [eLong a, eLong b]
theorem ev_mul (D : EvD) (a b : Int) : evalE D (sumT 13 a b) = numC (a * b) := rfl
theorem ev_add (D : EvD) (a b : Int) : evalE D (sumT 14 a b) = numC (a + b) := rfl
theorem ev_sub (D : EvD) (a b : Int) : evalE D (sumT 15 a b) = numC (a - b) := rfl
theorem numC_ok {x : Int} (h : InR x) : numC x = .inl (.pl (.long x)) := if_pos h
theorem numC_no {x : Int} (h : ¬ InR x) : numC x = .inr 17 := if_neg h
theorem okEv_sum (k a b : Int) (ha : InR a) (hb : InR b) : okEv (sumT k a b) = true := by
  have h0 : InR 0 := by decide
  unfold sumT eLong
  simp [okEv, okEvL, ha, hb, h0]
def setT (e : Ex) : Ex := .mk 6 false 0 [] [] [] [eLong 1, e]
def hasT (e : Ex) : Ex := .mk 9 false 0 [] [] [] [setT e, eLong 1]
def wrapT (e : Ex) : Ex := .mk 25 false 0 [] [] [] [hasT e, eLong 3, eLong 4]
theorem okEv_wrap {e : Ex} (h : okEv e = true) : okEv (wrapT e) = true := by
  have h0 : InR 0 := by decide
  have h1 : InR 1 := by decide
  have h3 : InR 3 := by decide
  have h4 : InR 4 := by decide
  unfold wrapT hasT setT eLong
  simp [okEv, okEvL, h, h0, h1, h3, h4]
theorem set_err {D : EvD} {e : Ex} {x : Int} (h : evalE D e = .inr x) : evalE D (setT e) = .inr x := by
  unfold setT
  rw [evalE_mk]
  show (match allR [evalE D (eLong 1), evalE D e] with | .inl gs => nodeC D 6 false 0 [] [] [] gs | .inr e => (Sum.inr e : EvR)) = _
  rw [h]
  rfl
theorem has_err {D : EvD} {e : Ex} {x : Int} (h : evalE D e = .inr x) : evalE D (hasT e) = .inr x := by
  unfold hasT
  rw [evalE_mk]
  show (match allR [evalE D (setT e), evalE D (eLong 1)] with | .inl gs => nodeC D 9 false 0 [] [] [] gs | .inr e => (Sum.inr e : EvR)) = _
  rw [set_err h]
  rfl
theorem wrap_err {D : EvD} {e : Ex} {x : Int} (h : evalE D e = .inr x) : evalE D (wrapT e) = .inr x := by
  unfold wrapT
  rw [evalE_mk]
  show ifC (evalE D (hasT e)) (evalE D (eLong 3)) (evalE D (eLong 4)) = _
  rw [has_err h]
  rfl
theorem set_ok {D : EvD} {e : Ex} {c : Int} (h : evalE D e = .inl (.pl (.long c))) : evalE D (setT e) = .inl (.set (setOf lessP [.long 1, .long c])) := by
  unfold setT
  rw [evalE_mk]
  show (match allR [evalE D (eLong 1), evalE D e] with | .inl gs => nodeC D 6 false 0 [] [] [] gs | .inr e => (Sum.inr e : EvR)) = _
  rw [h]
  show setC [.pl (.long 1), .pl (.long c)] = _
  unfold setC
  have h1 : likeK [GV.pl (.long 1), GV.pl (.long c)] = true := rfl
  have h2 : plsOf [GV.pl (.long 1), GV.pl (.long c)] = [.long 1, .long c] := rfl
  have h3 := lenG_setOf_le (lt := lessP) [PV.long 1, .long c]
  rw [h1, h2, if_pos rfl, if_pos (by simp at h3; omega)]
theorem has_ok {D : EvD} {e : Ex} {c : Int} (h : evalE D e = .inl (.pl (.long c))) : evalE D (hasT e) = boolC true := by
  unfold hasT
  rw [evalE_mk]
  show (match allR [evalE D (setT e), evalE D (eLong 1)] with | .inl gs => nodeC D 9 false 0 [] [] [] gs | .inr e => (Sum.inr e : EvR)) = _
  rw [set_ok h]
  show boolC (hasG (setOf lessP [.long 1, .long c]) (.pl (.long 1))) = _
  congr 1
  unfold hasG
  rw [List.any_eq_true]
  exact ⟨.long 1, (mem_setOf sto_lessP _ _).2 (by simp), (sameG_iff _ _).2 rfl⟩
theorem wrap_ok {D : EvD} {e : Ex} {c : Int} (h : evalE D e = .inl (.pl (.long c))) : evalE D (wrapT e) = .inl (.pl (.long 3)) := by
  unfold wrapT
  rw [evalE_mk]
  show ifC (evalE D (hasT e)) (evalE D (eLong 3)) (evalE D (eLong 4)) = _
  rw [has_ok h]
  rfl

/-- A number, or an error, as the law reckons it. -/
def SumR (e : EvR) (c : Int) (o : Bool) : Prop := (o = false ∧ e = .inl (.pl (.long c))) ∨ (o = true ∧ e = .inr 17)
theorem sum_no {x : Int} (h : InR x) : SumR (numC x) x false := .inl ⟨rfl, numC_ok h⟩
theorem sum_yes {x c : Int} (h : ¬ InR x) : SumR (numC x) c true := .inr ⟨rfl, numC_no h⟩

/-! ## In memory, but for one block. -/

def nb (P : Nat) : Nat → Prop := fun b => b ≠ P
theorem leafQ {w : World} {Q : Nat → Prop} (k : Int) (b : Bool) (n : Int) (s t i : List UInt8) (lc : Nat) (lo : Option Addr) : IsE w Q ⟨k, b, n, ba s, ba t, ba i, lo, 0, lc⟩ (.mk k b n s t i []) := by
  unfold IsE IsEs
  exact ⟨rfl, rfl, rfl, rfl, rfl, rfl, rfl, trivial⟩
theorem nodeQ {w : World} {Q : Nat → Prop} {k : Int} {b : Bool} {n : Int} {s t i : List UInt8} {lo : Option Addr} {ll lc : Nat} {l : List Ex} (hl : ll = l.length) (h : IsEs w Q lo 0 l) : IsE w Q ⟨k, b, n, ba s, ba t, ba i, lo, ll, lc⟩ (.mk k b n s t i l) := by
  unfold IsE
  exact ⟨rfl, rfl, rfl, rfl, rfl, rfl, hl, h⟩
theorem blockQ {w : World} {Q : Nat → Prop} {b : Nat} {T : TypeId} {fz : Nat × Nat} {cs : Array Value} (rs : List R7) (xs : List Ex) (h : w.heap[b]? = some (.cells cs T fz)) (hQ : Q b) (hc : cs.toList = cellsE rs) (ha : AllE w Q rs xs) : IsEs w Q (some ⟨b, 0, none⟩) 0 xs :=
  ha.row hQ (Array.getElem?_eq_some_iff.1 h).1 (at7_block rs h hc)
theorem liftQ {w w' : World} {Q : Nat → Prop} {r : R7} {e : Ex} (h : IsE w Q r e) (hb : Below w.heap.size w w') : IsE w' Q r e := IsE.turn hb.size (fun b hq hl => ⟨hb.block b hl, hq⟩) _ _ h
theorem openQ {w : World} {Q : Nat → Prop} {r : R7} {e : Ex} (h : IsE w Q r e) : IsE w PT r e := IsE.turn (Nat.le_refl _) (fun _ _ _ => ⟨rfl, trivial⟩) _ _ h
/-- A store into the block that is left out. -/
theorem keepQ {w w' : World} {P : Nat} {r : R7} {e : Ex} (h : IsE w (nb P) r e) (hs : w.heap.size ≤ w'.heap.size) (hk : ∀ b, b ≠ P → w'.heap[b]? = w.heap[b]?) : IsE w' (nb P) r e := IsE.turn hs (fun b hq _ => ⟨hk b hq, hq⟩) _ _ h
theorem twoQ {w : World} {Q : Nat → Prop} {r1 r2 : R7} {x1 x2 : Ex} (h1 : IsE w Q r1 x1) (h2 : IsE w Q r2 x2) : AllE w Q [r1, r2] [x1, x2] := .snoc (rs := [r1]) (xs := [x1]) (.snoc (rs := []) (xs := []) .nil h1) h2
theorem threeQ {w : World} {Q : Nat → Prop} {r1 r2 r3 : R7} {x1 x2 x3 : Ex} (h1 : IsE w Q r1 x1) (h2 : IsE w Q r2 x2) (h3 : IsE w Q r3 x3) : AllE w Q [r1, r2, r3] [x1, x2, x3] := .snoc (rs := [r1, r2]) (xs := [x1, x2]) (twoQ h1 h2) h3
def longR (n : Int) : R7 := ⟨2, false, n, ⟨#[]⟩, ⟨#[]⟩, ⟨#[]⟩, none, 0, 0⟩
theorem longQ (w : World) (Q : Nat → Prop) (n : Int) : IsE w Q (longR n) (eLong n) := leafQ 2 false n [] [] [] 0 none
def nodeR (k : Int) (x l : Nat) : R7 := ⟨k, false, 0, ⟨#[]⟩, ⟨#[]⟩, ⟨#[]⟩, some ⟨x, 0, none⟩, l, l⟩
theorem sumQ {w : World} {Q : Nat → Prop} {x : Nat} {k a b : Int} {T : TypeId} {fz : Nat × Nat} {cs : Array Value} (h : w.heap[x]? = some (.cells cs T fz)) (hc : cs.toList = cellsE [longR a, longR b]) (hQ : Q x) : IsE w Q (nodeR k x 2) (sumT k a b) :=
  nodeQ (s := []) (t := []) (i := []) rfl (blockQ _ _ h hQ hc (twoQ (longQ w Q a) (longQ w Q b)))
theorem wrapQ {w : World} {Q : Nat → Prop} {x1 x2 x3 : Nat} {r : R7} {e : Ex} {T1 T2 T3 : TypeId} {f1 f2 f3 : Nat × Nat} {c1 c2 c3 : Array Value}
    (h1 : w.heap[x1]? = some (.cells c1 T1 f1)) (e1 : c1.toList = cellsE [longR 1, r]) (q1 : Q x1)
    (h2 : w.heap[x2]? = some (.cells c2 T2 f2)) (e2 : c2.toList = cellsE [nodeR 6 x1 2, longR 1]) (q2 : Q x2)
    (h3 : w.heap[x3]? = some (.cells c3 T3 f3)) (e3 : c3.toList = cellsE [nodeR 9 x2 2, longR 3, longR 4]) (q3 : Q x3) (h : IsE w Q r e) : IsE w Q (nodeR 25 x3 3) (wrapT e) :=
  nodeQ (s := []) (t := []) (i := []) rfl (blockQ _ _ h3 q3 e3 (threeQ (nodeQ (s := []) (t := []) (i := []) rfl (blockQ _ _ h2 q2 e2 (twoQ (nodeQ (s := []) (t := []) (i := []) rfl (blockQ _ _ h1 q1 e1 (twoQ (longQ w Q 1) h))) (longQ w Q 1)))) (longQ w Q 3) (longQ w Q 4)))
end Go.Proofs.YtonfanfggfjbdaaGreat

namespace Go.Proofs.YtonfanfggfjbdaaGreat
open Go.RowKit Go.Sort

set_option maxHeartbeats 8000000 in
set_option maxRecDepth 1000000 in
theorem esums_walk (a b op deep : Int) (w : World) (ha : InR a) (hb : InR b) (hf : FitL w) : Calls Tryz.prog 5 #[.int .i64 a, .int .i64 b, .int .i64 op, .int .i64 deep] w fun e w' => e = .returned (.bool true) ∧ Below w.heap.size w w' := by
  have C0 := known13_any w hf
  obtain ⟨m, hm⟩ : ∃ m : Nat, (m : Int) = op % 3 := ⟨(op % 3).toNat, by omega⟩
  obtain ⟨d, hd⟩ : ∃ d : Nat, (d : Int) = deep % 3 := ⟨(deep % 3).toNat, by omega⟩
  have CW := fun w' => within13_any op 3 (by decide) (by decide) w'
  have CD := fun w' => within13_any deep 3 (by decide) (by decide) w'
  rw [← hm] at CW
  rw [← hd] at CD
  have hm3 : m < 3 := by omega
  have hd3 : d < 3 := by omega
  clear hm hd
  have m0 : (0 : Int) ≤ (m : Int) := by omega
  have m1 : (m : Int) < 3 := by omega
  have wr13 : IntKind.i64.wrap (13 + (m : Int)) = 13 + (m : Int) := by
    have h1 : (0 : Int) ≤ 13 + (m : Int) := by omega
    have h2 : 13 + (m : Int) < 9223372036854775808 := by omega
    simp [IntKind.wrap, IntKind.signed, IntKind.bits]
    omega
  obtain ⟨a1, a2⟩ := id ha
  obtain ⟨b1, b2⟩ := id hb
  go_enter Tryz.func5, Tryz.ntmps5
  go_wp2_with fail
  refine C0.mono ?_
  clear C0
  rintro e9 w2 ⟨rfl, b02⟩
  by_cases a0 : a < 0
  · go_wp2
    go_ret
    exact ⟨rfl, b02⟩
  by_cases b0 : b < 0
  · go_wp2
    go_ret
    exact ⟨rfl, b02⟩
  have hf2 := hf.below b02
  obtain ⟨bA, zA, kA0, kA1⟩ := ev2 w2 (.cells #[.int .i64 2, .bool false, .int .i64 a, .string ⟨#[]⟩, .string ⟨#[]⟩, .string ⟨#[]⟩, .slice none 0 0, .int .i64 2, .bool false, .int .i64 b, .string ⟨#[]⟩, .string ⟨#[]⟩, .string ⟨#[]⟩, .slice none 0 0] 42) (.cells #[.int .i64 (13 + (m : Int)), .bool false, .int .i64 0, .string ⟨#[]⟩, .string ⟨#[]⟩, .string ⟨#[]⟩, .slice (some ⟨w2.heap.size, 0, none⟩) 2 2] 42)
  clear zA
  have hf3 := hf2.below bA
  have hw2 : IntKind.i64.wrap (a - b) = a - b := by
    rw [IntKind.wrap_i64]
    omega
  go_wp2_with fail
  refine (CW _).mono ?_
  rintro e9 w9 ⟨rfl, hw9⟩
  rw [hw9]
  clear hw9 w9 CW
  go_upto_region 7 with fail
  generalize (w2.alloc _).alloc _ = w3 at *
  go_upto_block 0 with fail
  go_cut [10, 11] from 19 to 67 (fun s10 s11 wx => wx = w3 ∧ ∃ (c : Int) (o : Bool), s10 = .int .i64 c ∧ s11 = .bool o ∧ SumR (evalE (noD zU zU zU) (sumT (13 + (m : Int)) a b)) c o)
  case first =>
    clear kA0 kA1 bA hf2 hf3 hf wr13
    obtain rfl | rfl | rfl : m = 0 ∨ m = 1 ∨ m = 2 := by omega
    · have EV := hide (show evalE (noD zU zU zU) (sumT (13 + ((0 : Nat) : Int)) a b) = numC (a * b) from ev_mul _ a b)
      by_cases za : a = 0
      · have hw : IntKind.i64.wrap (a * b) = 0 := by rw [za, Int.zero_mul]; rfl
        have HS := hide (show SumR (numC (a * b)) 0 false by rw [za, Int.zero_mul]; exact sum_no (by decide))
        subst za
        clear a0 b0 a1 a2 b1 b2
        go_wp2_with fail
        go_meet
        case rel => exact ⟨rfl, 0, false, rfl, rfl, by rw [unhide EV]; exact unhide HS⟩
      · by_cases zb : b = 0
        · have hw : IntKind.i64.wrap (a * b) = 0 := by rw [zb, Int.mul_zero]; rfl
          have HS := hide (show SumR (numC (a * b)) 0 false by rw [zb, Int.mul_zero]; exact sum_no (by decide))
          have e1 : (a == 0) = false := by simpa using za
          subst zb
          clear a0 b0 a1 a2 b1 b2
          go_wp2_with fail
          go_meet
          case rel => exact ⟨rfl, 0, false, rfl, rfl, by rw [unhide EV]; exact unhide HS⟩
        · obtain ⟨c, q, hw, hc, hq, hqb, hin⟩ := mul_facts b a hb ha zb (.inl (by omega))
          rw [Int.mul_comm b a] at hw hqb hin
          have e1 : (a == 0) = false := by simpa using za
          have e2 : (b == 0) = false := by simpa using zb
          have e5 : (b == -1) = false := by
            have : b ≠ -1 := by omega
            simpa using this
          by_cases hi : InR (a * b)
          · obtain rfl := hqb.2 hi
            have hcc := hin hi
            have c0 : ¬ c < 0 := by
              rw [← hcc]
              have := Int.mul_nonneg (a := q) (b := b) (by omega) (by omega)
              omega
            have HS := hide (show SumR (numC (q * b)) c false by rw [hcc]; exact sum_no (hcc ▸ hi))
            have e3 : (q == q) = true := by simp
            clear a0 b0 a1 a2 b1 b2 hqb hin hi hcc hc
            go_wp2_with fail
            go_meet
            case rel => exact ⟨rfl, c, false, rfl, rfl, by rw [unhide EV]; exact unhide HS⟩
          · have hne : q ≠ a := fun h => hi (hqb.1 h)
            have HS := hide (show SumR (numC (a * b)) c true from sum_yes hi)
            have e3 : (q == a) = false := by simpa using hne
            clear a0 b0 a1 a2 b1 b2 hqb hin hi hc
            go_wp2_with fail
            go_meet
            case rel => exact ⟨rfl, c, true, rfl, by simp [za, zb], by rw [unhide EV]; exact unhide HS⟩
    · have EV := hide (show evalE (noD zU zU zU) (sumT (13 + ((1 : Nat) : Int)) a b) = numC (a + b) from ev_add _ a b)
      obtain ⟨c, hw⟩ : ∃ c, IntKind.i64.wrap (a + b) = c := ⟨_, rfl⟩
      have hw' := hw
      rw [IntKind.wrap_i64] at hw'
      by_cases hi : a + b ≤ 9223372036854775807
      · have c0 : ¬ c < 0 := by omega
        have HS := hide (show SumR (numC (a + b)) c false by
          rw [show c = a + b by omega]
          exact sum_no ⟨by omega, hi⟩)
        clear hw' a0 b0 a1 a2 b1 b2 hi
        go_wp2_with fail
        go_meet
        case rel => exact ⟨rfl, c, false, rfl, rfl, by rw [unhide EV]; exact unhide HS⟩
      · have c0 : c < 0 := by omega
        have HS := hide (show SumR (numC (a + b)) c true from sum_yes (fun h => hi h.2))
        clear hw' a0 b0 a1 a2 b1 b2 hi
        go_wp2_with fail
        go_meet
        case rel => exact ⟨rfl, c, true, rfl, rfl, by rw [unhide EV]; exact unhide HS⟩
    · have EV := hide (show evalE (noD zU zU zU) (sumT (13 + ((2 : Nat) : Int)) a b) = numC (a - b) from ev_sub _ a b)
      have HS := hide (show SumR (numC (a - b)) (a - b) false from sum_no ⟨by omega, by omega⟩)
      clear a0 b0 a1 a2 b1 b2
      go_wp2_with fail
      go_meet
      case rel => exact ⟨rfl, a - b, false, rfl, rfl, by rw [unhide EV]; exact unhide HS⟩
  case rest =>
    obtain ⟨rfl, c, o, rfl, rfl, hS⟩ := hcut
    rename World => w3
    clear hw2 a0 b0 a1 a2 b1 b2 hf
    rcases hS with ⟨rfl, hev⟩ | ⟨rfl, hev⟩
    · have hI := sumQ (k := 13 + (m : Int)) (a := a) (b := b) (Q := nb (w2.heap.size + 1)) kA0 rfl (by unfold nb; omega)
      have C := expr13_pl (p := .long c) (noD zU zU zU) none [] 0 0 (sumT (13 + (m : Int)) a b) (nodeR (13 + (m : Int)) w2.heap.size 2) w3 rfl (ew_nil _ hf3 _ _ _) (openQ hI) (okEv_sum _ a b ha hb) hev
      simp only [noD, zU, nodeR] at C
      rw [show (ofP (.long c)).val = .agg #[.int .i64 2, .bool false, .int .i64 c, .string ⟨#[]⟩, .string ⟨#[]⟩, .string ⟨#[]⟩, .slice none 0 0] from rfl] at C
      have p0 : w3.cell? ⟨w2.heap.size + 1, 0, none⟩ = some (.int .i64 (13 + (m : Int))) := by rw [Lib.cell_of_heap kA1]; rfl
      have p1 : w3.cell? ⟨w2.heap.size + 1, 1, none⟩ = some (.bool false) := by rw [Lib.cell_of_heap kA1]; rfl
      have p2 : w3.cell? ⟨w2.heap.size + 1, 2, none⟩ = some (.int .i64 0) := by rw [Lib.cell_of_heap kA1]; rfl
      have p3 : w3.cell? ⟨w2.heap.size + 1, 3, none⟩ = some (.string ⟨#[]⟩) := by rw [Lib.cell_of_heap kA1]; rfl
      have p4 : w3.cell? ⟨w2.heap.size + 1, 4, none⟩ = some (.string ⟨#[]⟩) := by rw [Lib.cell_of_heap kA1]; rfl
      have p5 : w3.cell? ⟨w2.heap.size + 1, 5, none⟩ = some (.string ⟨#[]⟩) := by rw [Lib.cell_of_heap kA1]; rfl
      have p6 : w3.cell? ⟨w2.heap.size + 1, 6, none⟩ = some (.slice (some ⟨w2.heap.size, 0, none⟩) 2 2) := by rw [Lib.cell_of_heap kA1]; rfl
      go_wp2_with fail
      refine C.mono ?_
      clear C
      rintro e9 w5 ⟨rfl, b5⟩
      have b6 := ev1 w5 (.cells #[.int .i64 2, .bool false, .int .i64 c, .string ⟨#[]⟩, .string ⟨#[]⟩, .string ⟨#[]⟩, .slice none 0 0] 46)
      have h6 := alloc_heap w5 (.cells #[.int .i64 2, .bool false, .int .i64 c, .string ⟨#[]⟩, .string ⟨#[]⟩, .string ⟨#[]⟩, .slice none 0 0] 46)
      have B6 := b5.trans (b6.mono b5.size)
      have hP6 := kept_of_below B6 kA1
      have hI6 := liftQ hI B6
      have b26 := bA.trans (B6.mono bA.size)
      have hVP : w5.heap.size ≠ w2.heap.size + 1 := by
        have := b5.size
        have := (Array.getElem?_eq_some_iff.1 kA1).1
        omega
      clear p0 p1 p2 p3 p4 p5 p6 hI
      go_upto_region 16 with fail
      generalize w5.alloc _ = w6 at *
      have v0 : w6.cell? ⟨w5.heap.size, 0, none⟩ = some (.int .i64 2) := by rw [Lib.cell_of_heap h6]; rfl
      have v2 : w6.cell? ⟨w5.heap.size, 2, none⟩ = some (.int .i64 c) := by rw [Lib.cell_of_heap h6]; rfl
      have cc : (c == c) = true := by simp
      go_wp2_with fail
      clear v0 v2 cc
      go_loopw [14] (fun iv wr => ∃ (i : Nat) (r : R7) (E : Ex), iv = .int .i64 i ∧ i ≤ d ∧ Below w2.heap.size w2 wr ∧ wr.heap[w2.heap.size + 1]? = some (.cells #[.int .i64 r.k, .bool r.b, .int .i64 r.n, .string r.s, .string r.t, .string r.i, .slice r.lo r.ll r.lc] 42 (0, 0)) ∧ wr.heap[w5.heap.size]? = some (.cells #[.int .i64 2, .bool false, .int .i64 c, .string ⟨#[]⟩, .string ⟨#[]⟩, .string ⟨#[]⟩, .slice none 0 0] 46 (0, 0)) ∧ IsE wr (nb (w2.heap.size + 1)) r E ∧ okEv E = true ∧ evalE (noD zU zU zU) E = .inl (.pl (.long (if i = 0 then c else 3)))) (fun iv _ => d - (intOf iv).toNat)
      case atStart => exact ⟨0, nodeR (13 + (m : Int)) w2.heap.size 2, sumT (13 + (m : Int)) a b, by go_num, Nat.zero_le _, b26, hP6, h6, hI6, okEv_sum _ a b ha hb, hev.trans (by rw [if_pos rfl])⟩
      case round =>
        rename World => wr
        obtain ⟨i, r, E, rfl, hi, hbw, hP, hV, hQ, hok, hev⟩ := hrel
        have i0 : (0 : Int) ≤ (i : Int) := by omega
        clear hP6 h6 hI6
        by_cases hlt : i < d
        · have i1 : (i : Int) < (d : Int) := by omega
          have HV := hide hV
          have HQ := hide hQ
          have HOK := hide (okEv_wrap hok)
          have HEV := hide (wrap_ok hev)
          clear hQ hok hev hV
          go_wp2_with fail
          refine (CD _).mono ?_
          rintro e9 w9 ⟨rfl, hw9⟩
          rw [hw9]
          clear hw9 w9
          have q0 : wr.cell? ⟨w2.heap.size + 1, 0, none⟩ = some (.int .i64 r.k) := by rw [Lib.cell_of_heap hP]; rfl
          have q1 : wr.cell? ⟨w2.heap.size + 1, 1, none⟩ = some (.bool r.b) := by rw [Lib.cell_of_heap hP]; rfl
          have q2 : wr.cell? ⟨w2.heap.size + 1, 2, none⟩ = some (.int .i64 r.n) := by rw [Lib.cell_of_heap hP]; rfl
          have q3 : wr.cell? ⟨w2.heap.size + 1, 3, none⟩ = some (.string r.s) := by rw [Lib.cell_of_heap hP]; rfl
          have q4 : wr.cell? ⟨w2.heap.size + 1, 4, none⟩ = some (.string r.t) := by rw [Lib.cell_of_heap hP]; rfl
          have q5 : wr.cell? ⟨w2.heap.size + 1, 5, none⟩ = some (.string r.i) := by rw [Lib.cell_of_heap hP]; rfl
          have q6 : wr.cell? ⟨w2.heap.size + 1, 6, none⟩ = some (.slice r.lo r.ll r.lc) := by rw [Lib.cell_of_heap hP]; rfl
          have df : ∀ o, wr.frozen? ⟨w2.heap.size + 1, o, none⟩ = false := fun o => Lib.frozen_of_heap hP o
          have hPlt : w2.heap.size + 1 < wr.heap.size := (Array.getElem?_eq_some_iff.1 hP).1
          have F1 := hide (show (fun wx : World => Below w2.heap.size w2 wx ∧ wx.heap[wr.heap.size]? = some (.cells #[.int .i64 2, .bool false, .int .i64 1, .string ⟨#[]⟩, .string ⟨#[]⟩, .string ⟨#[]⟩, .slice none 0 0, .int .i64 r.k, .bool r.b, .int .i64 r.n, .string r.s, .string r.t, .string r.i, .slice r.lo r.ll r.lc] 42 (0, 0)) ∧ wx.heap[w2.heap.size + 1]? = some (.cells #[.int .i64 6, .bool false, .int .i64 0, .string ⟨#[]⟩, .string ⟨#[]⟩, .string ⟨#[]⟩, .slice (some ⟨wr.heap.size, 0, none⟩) 2 2] 42 (0, 0)) ∧ (∀ b', b' ≠ w2.heap.size + 1 → b' < wr.heap.size → wx.heap[b']? = wr.heap[b']?) ∧ wx.heap.size = wr.heap.size + 1) ((set7S wr (w2.heap.size + 1) (.int .i64 6) (.bool false) (.int .i64 0) (.string ⟨#[]⟩) (.string ⟨#[]⟩) (.string ⟨#[]⟩) (.slice (some ⟨wr.heap.size, 0, none⟩) 2 2)).alloc (.cells #[.int .i64 2, .bool false, .int .i64 1, .string ⟨#[]⟩, .string ⟨#[]⟩, .string ⟨#[]⟩, .slice none 0 0, .int .i64 r.k, .bool r.b, .int .i64 r.n, .string r.s, .string r.t, .string r.i, .slice r.lo r.ll r.lc] 42)) from by
            obtain ⟨S, hS⟩ : ∃ S, S = set7S wr (w2.heap.size + 1) (.int .i64 6) (.bool false) (.int .i64 0) (.string ⟨#[]⟩) (.string ⟨#[]⟩) (.string ⟨#[]⟩) (.slice (some ⟨wr.heap.size, 0, none⟩) 2 2) := ⟨_, rfl⟩
            have zS : S.heap.size = wr.heap.size := by rw [hS, set7S_size]
            have pS := set7S_at hP (.int .i64 6) (.bool false) (.int .i64 0) (.string ⟨#[]⟩) (.string ⟨#[]⟩) (.string ⟨#[]⟩) (.slice (some ⟨wr.heap.size, 0, none⟩) 2 2)
            have kS := fun b' h => set7S_heap wr (w2.heap.size + 1) b' (.int .i64 6) (.bool false) (.int .i64 0) (.string ⟨#[]⟩) (.string ⟨#[]⟩) (.string ⟨#[]⟩) (.slice (some ⟨wr.heap.size, 0, none⟩) 2 2) h
            have bS := set7S_below hbw (Nat.le_succ _) (.int .i64 6) (.bool false) (.int .i64 0) (.string ⟨#[]⟩) (.string ⟨#[]⟩) (.string ⟨#[]⟩) (.slice (some ⟨wr.heap.size, 0, none⟩) 2 2)
            rw [← hS] at pS kS bS ⊢
            have bK := ev1 S (.cells #[.int .i64 2, .bool false, .int .i64 1, .string ⟨#[]⟩, .string ⟨#[]⟩, .string ⟨#[]⟩, .slice none 0 0, .int .i64 r.k, .bool r.b, .int .i64 r.n, .string r.s, .string r.t, .string r.i, .slice r.lo r.ll r.lc] 42)
            have hK := alloc_heap S (.cells #[.int .i64 2, .bool false, .int .i64 1, .string ⟨#[]⟩, .string ⟨#[]⟩, .string ⟨#[]⟩, .slice none 0 0, .int .i64 r.k, .bool r.b, .int .i64 r.n, .string r.s, .string r.t, .string r.i, .slice r.lo r.ll r.lc] 42)
            rw [zS] at hK
            exact ⟨bS.trans (bK.mono bS.size), hK, kept_of_below bK pS, fun b' h1 h2 => (bK.block b' (by omega)).trans (kS b' h1), by simp [zS]⟩)
          clear hP
          go_upto_region 21 with fail
          go_cut [] from 99 to 102 (fun wx => Below w2.heap.size w2 wx ∧ wx.heap[wr.heap.size]? = some (.cells #[.int .i64 2, .bool false, .int .i64 1, .string ⟨#[]⟩, .string ⟨#[]⟩, .string ⟨#[]⟩, .slice none 0 0, .int .i64 r.k, .bool r.b, .int .i64 r.n, .string r.s, .string r.t, .string r.i, .slice r.lo r.ll r.lc] 42 (0, 0)) ∧ wx.heap[w2.heap.size + 1]? = some (.cells #[.int .i64 6, .bool false, .int .i64 0, .string ⟨#[]⟩, .string ⟨#[]⟩, .string ⟨#[]⟩, .slice (some ⟨wr.heap.size, 0, none⟩) 2 2] 42 (0, 0)) ∧ (∀ b', b' ≠ w2.heap.size + 1 → b' < wr.heap.size → wx.heap[b']? = wr.heap[b']?) ∧ wx.heap.size = wr.heap.size + 1)
          case first =>
            go_wp2_with fail
            go_meet
            case rel => exact unhide F1
          case rest =>
            rename World => wx
            obtain ⟨bX, kX1, kXP, kX, zX⟩ := hcut
            clear F1 q0 q1 q2 q3 q4 q5 q6 df
            have q0 : wx.cell? ⟨w2.heap.size + 1, 0, none⟩ = some (.int .i64 6) := by rw [Lib.cell_of_heap kXP]; rfl
            have q1 : wx.cell? ⟨w2.heap.size + 1, 1, none⟩ = some (.bool false) := by rw [Lib.cell_of_heap kXP]; rfl
            have q2 : wx.cell? ⟨w2.heap.size + 1, 2, none⟩ = some (.int .i64 0) := by rw [Lib.cell_of_heap kXP]; rfl
            have q3 : wx.cell? ⟨w2.heap.size + 1, 3, none⟩ = some (.string ⟨#[]⟩) := by rw [Lib.cell_of_heap kXP]; rfl
            have q4 : wx.cell? ⟨w2.heap.size + 1, 4, none⟩ = some (.string ⟨#[]⟩) := by rw [Lib.cell_of_heap kXP]; rfl
            have q5 : wx.cell? ⟨w2.heap.size + 1, 5, none⟩ = some (.string ⟨#[]⟩) := by rw [Lib.cell_of_heap kXP]; rfl
            have q6 : wx.cell? ⟨w2.heap.size + 1, 6, none⟩ = some (.slice (some ⟨wr.heap.size, 0, none⟩) 2 2) := by rw [Lib.cell_of_heap kXP]; rfl
            have df : ∀ o, wx.frozen? ⟨w2.heap.size + 1, o, none⟩ = false := fun o => Lib.frozen_of_heap kXP o
            have hPlx : w2.heap.size + 1 < wx.heap.size := by omega
            have hPl2 : w2.heap.size < wx.heap.size := by omega
            have HG := hide (show (fun wq : World => Below w2.heap.size w2 wq ∧ wq.heap[w2.heap.size + 1]? = some (.cells #[.int .i64 (nodeR 25 (wx.heap.size + 1) 3).k, .bool (nodeR 25 (wx.heap.size + 1) 3).b, .int .i64 (nodeR 25 (wx.heap.size + 1) 3).n, .string (nodeR 25 (wx.heap.size + 1) 3).s, .string (nodeR 25 (wx.heap.size + 1) 3).t, .string (nodeR 25 (wx.heap.size + 1) 3).i, .slice (nodeR 25 (wx.heap.size + 1) 3).lo (nodeR 25 (wx.heap.size + 1) 3).ll (nodeR 25 (wx.heap.size + 1) 3).lc] 42 (0, 0)) ∧ wq.heap[w5.heap.size]? = some (.cells #[.int .i64 2, .bool false, .int .i64 c, .string ⟨#[]⟩, .string ⟨#[]⟩, .string ⟨#[]⟩, .slice none 0 0] 46 (0, 0)) ∧ IsE wq (nb (w2.heap.size + 1)) (nodeR 25 (wx.heap.size + 1) 3) (wrapT E)) (((set7S wx (w2.heap.size + 1) (.int .i64 25) (.bool false) (.int .i64 0) (.string ⟨#[]⟩) (.string ⟨#[]⟩) (.string ⟨#[]⟩) (.slice (some ⟨wx.heap.size + 1, 0, none⟩) 3 3)).alloc (.cells #[.int .i64 6, .bool false, .int .i64 0, .string ⟨#[]⟩, .string ⟨#[]⟩, .string ⟨#[]⟩, .slice (some ⟨wr.heap.size, 0, none⟩) 2 2, .int .i64 2, .bool false, .int .i64 1, .string ⟨#[]⟩, .string ⟨#[]⟩, .string ⟨#[]⟩, .slice none 0 0] 42)).alloc (.cells #[.int .i64 9, .bool false, .int .i64 0, .string ⟨#[]⟩, .string ⟨#[]⟩, .string ⟨#[]⟩, .slice (some ⟨wx.heap.size, 0, none⟩) 2 2, .int .i64 2, .bool false, .int .i64 3, .string ⟨#[]⟩, .string ⟨#[]⟩, .string ⟨#[]⟩, .slice none 0 0, .int .i64 2, .bool false, .int .i64 4, .string ⟨#[]⟩, .string ⟨#[]⟩, .string ⟨#[]⟩, .slice none 0 0] 42)) from by
              obtain ⟨S, hS⟩ : ∃ S, S = set7S wx (w2.heap.size + 1) (.int .i64 25) (.bool false) (.int .i64 0) (.string ⟨#[]⟩) (.string ⟨#[]⟩) (.string ⟨#[]⟩) (.slice (some ⟨wx.heap.size + 1, 0, none⟩) 3 3) := ⟨_, rfl⟩
              have zS : S.heap.size = wx.heap.size := by rw [hS, set7S_size]
              have pS := set7S_at kXP (.int .i64 25) (.bool false) (.int .i64 0) (.string ⟨#[]⟩) (.string ⟨#[]⟩) (.string ⟨#[]⟩) (.slice (some ⟨wx.heap.size + 1, 0, none⟩) 3 3)
              have kS := fun b' h => set7S_heap wx (w2.heap.size + 1) b' (.int .i64 25) (.bool false) (.int .i64 0) (.string ⟨#[]⟩) (.string ⟨#[]⟩) (.string ⟨#[]⟩) (.slice (some ⟨wx.heap.size + 1, 0, none⟩) 3 3) h
              have bS := set7S_below bX (Nat.le_succ _) (.int .i64 25) (.bool false) (.int .i64 0) (.string ⟨#[]⟩) (.string ⟨#[]⟩) (.string ⟨#[]⟩) (.slice (some ⟨wx.heap.size + 1, 0, none⟩) 3 3)
              rw [← hS] at pS kS bS ⊢
              obtain ⟨bY, zY, y2, y3⟩ := ev2 S (.cells #[.int .i64 6, .bool false, .int .i64 0, .string ⟨#[]⟩, .string ⟨#[]⟩, .string ⟨#[]⟩, .slice (some ⟨wr.heap.size, 0, none⟩) 2 2, .int .i64 2, .bool false, .int .i64 1, .string ⟨#[]⟩, .string ⟨#[]⟩, .string ⟨#[]⟩, .slice none 0 0] 42) (.cells #[.int .i64 9, .bool false, .int .i64 0, .string ⟨#[]⟩, .string ⟨#[]⟩, .string ⟨#[]⟩, .slice (some ⟨wx.heap.size, 0, none⟩) 2 2, .int .i64 2, .bool false, .int .i64 3, .string ⟨#[]⟩, .string ⟨#[]⟩, .string ⟨#[]⟩, .slice none 0 0, .int .i64 2, .bool false, .int .i64 4, .string ⟨#[]⟩, .string ⟨#[]⟩, .string ⟨#[]⟩, .slice none 0 0] 42)
              rw [zS] at y2 y3
              have y1 := kept_of_below bY ((kS _ (by omega)).trans kX1)
              have hVr := unhide HV
              have hVl := (Array.getElem?_eq_some_iff.1 hVr).1
              have y0 := kept_of_below bY ((kS _ hVP).trans ((kX _ hVP hVl).trans hVr))
              have hQx : IsE wx (nb (w2.heap.size + 1)) r E := IsE.turn (by omega) (fun b' h1 h2 => ⟨kX b' h1 h2, h1⟩) _ _ (unhide HQ)
              exact ⟨bS.trans (bY.mono bS.size), kept_of_below bY pS, y0, wrapQ (x1 := wr.heap.size) (x2 := wx.heap.size) y1 rfl (by unfold nb; omega) y2 rfl (by unfold nb; omega) y3 rfl (by unfold nb; omega) (liftQ (keepQ hQx (by omega) kS) bY)⟩)
            clear kX1 kXP kX zX bX
            go_wp2_with fail
            go_roundw
            case rel => exact ⟨i + 1, nodeR 25 (wx.heap.size + 1) 3, wrapT E, by go_num, by omega, (unhide HG).1, (unhide HG).2.1, (unhide HG).2.2.1, (unhide HG).2.2.2, unhide HOK, (unhide HEV).trans (by rw [if_neg (Nat.succ_ne_zero i)])⟩
            case measure =>
              simp only [intOf]
              omega
        · have i1 : ¬ (i : Int) < (d : Int) := by omega
          have hid : i = d := by omega
          obtain ⟨X, hX⟩ : ∃ X, X = if i = 0 then c else 3 := ⟨_, rfl⟩
          rw [← hX] at hev
          have HX := hide hX
          clear hX
          have C := expr13_pl (p := .long X) (noD zU zU zU) none [] 0 0 E r wr rfl (ew_nil _ (hf2.below hbw) _ _ _) (openQ hQ) hok hev
          simp only [noD, zU] at C
          rw [show (ofP (.long X)).val = .agg #[.int .i64 2, .bool false, .int .i64 X, .string ⟨#[]⟩, .string ⟨#[]⟩, .string ⟨#[]⟩, .slice none 0 0] from rfl] at C
          clear hQ hok hev
          have q0 : wr.cell? ⟨w2.heap.size + 1, 0, none⟩ = some (.int .i64 r.k) := by rw [Lib.cell_of_heap hP]; rfl
          have q1 : wr.cell? ⟨w2.heap.size + 1, 1, none⟩ = some (.bool r.b) := by rw [Lib.cell_of_heap hP]; rfl
          have q2 : wr.cell? ⟨w2.heap.size + 1, 2, none⟩ = some (.int .i64 r.n) := by rw [Lib.cell_of_heap hP]; rfl
          have q3 : wr.cell? ⟨w2.heap.size + 1, 3, none⟩ = some (.string r.s) := by rw [Lib.cell_of_heap hP]; rfl
          have q4 : wr.cell? ⟨w2.heap.size + 1, 4, none⟩ = some (.string r.t) := by rw [Lib.cell_of_heap hP]; rfl
          have q5 : wr.cell? ⟨w2.heap.size + 1, 5, none⟩ = some (.string r.i) := by rw [Lib.cell_of_heap hP]; rfl
          have q6 : wr.cell? ⟨w2.heap.size + 1, 6, none⟩ = some (.slice r.lo r.ll r.lc) := by rw [Lib.cell_of_heap hP]; rfl
          go_wp2_with fail
          refine (CD _).mono ?_
          rintro e9 w9 ⟨rfl, hw9⟩
          rw [hw9]
          clear hw9 w9
          go_wp2_with fail
          refine C.mono ?_
          clear C
          rintro e9 w7 ⟨rfl, b7⟩
          have b8 := ev1 w7 (.cells #[.int .i64 2, .bool false, .int .i64 X, .string ⟨#[]⟩, .string ⟨#[]⟩, .string ⟨#[]⟩, .slice none 0 0] 46)
          have h8 := alloc_heap w7 (.cells #[.int .i64 2, .bool false, .int .i64 X, .string ⟨#[]⟩, .string ⟨#[]⟩, .string ⟨#[]⟩, .slice none 0 0] 46)
          have B8 := b7.trans (b8.mono b7.size)
          have hV8 := kept_of_below B8 hV
          have b28 := hbw.trans (B8.mono hbw.size)
          have bE := b02.trans (b28.mono b02.size)
          clear q0 q1 q2 q3 q4 q5 q6 hP hV
          go_upto_region 24 with fail
          generalize w7.alloc _ = w8 at *
          have x0 : w8.cell? ⟨w7.heap.size, 0, none⟩ = some (.int .i64 2) := by rw [Lib.cell_of_heap h8]; rfl
          have x1 : w8.cell? ⟨w7.heap.size, 1, none⟩ = some (.bool false) := by rw [Lib.cell_of_heap h8]; rfl
          have x2 : w8.cell? ⟨w7.heap.size, 2, none⟩ = some (.int .i64 X) := by rw [Lib.cell_of_heap h8]; rfl
          have x3 : w8.cell? ⟨w7.heap.size, 3, none⟩ = some (.string ⟨#[]⟩) := by rw [Lib.cell_of_heap h8]; rfl
          have x4 : w8.cell? ⟨w7.heap.size, 4, none⟩ = some (.string ⟨#[]⟩) := by rw [Lib.cell_of_heap h8]; rfl
          have x5 : w8.cell? ⟨w7.heap.size, 5, none⟩ = some (.string ⟨#[]⟩) := by rw [Lib.cell_of_heap h8]; rfl
          have x6 : w8.cell? ⟨w7.heap.size, 6, none⟩ = some (.slice none 0 0) := by rw [Lib.cell_of_heap h8]; rfl
          have v0 : w8.cell? ⟨w5.heap.size, 0, none⟩ = some (.int .i64 2) := by rw [Lib.cell_of_heap hV8]; rfl
          have v1 : w8.cell? ⟨w5.heap.size, 1, none⟩ = some (.bool false) := by rw [Lib.cell_of_heap hV8]; rfl
          have v2 : w8.cell? ⟨w5.heap.size, 2, none⟩ = some (.int .i64 c) := by rw [Lib.cell_of_heap hV8]; rfl
          have v3 : w8.cell? ⟨w5.heap.size, 3, none⟩ = some (.string ⟨#[]⟩) := by rw [Lib.cell_of_heap hV8]; rfl
          have v4 : w8.cell? ⟨w5.heap.size, 4, none⟩ = some (.string ⟨#[]⟩) := by rw [Lib.cell_of_heap hV8]; rfl
          have v5 : w8.cell? ⟨w5.heap.size, 5, none⟩ = some (.string ⟨#[]⟩) := by rw [Lib.cell_of_heap hV8]; rfl
          have v6 : w8.cell? ⟨w5.heap.size, 6, none⟩ = some (.slice none 0 0) := by rw [Lib.cell_of_heap hV8]; rfl
          have XX := unhide HX
          clear h8 hV8
          by_cases d0 : d = 0
          · subst d0
            obtain rfl : X = c := by rw [XX, hid]; rfl
            have SM := r3sameG_true (.pl (.long X)) (ofP (.long X)) (ofP (.long X)) w8 rfl rfl (show (0 : Nat) ≤ 1048576 by decide)
            rw [show (ofP (.long X)).val = .agg #[.int .i64 2, .bool false, .int .i64 X, .string ⟨#[]⟩, .string ⟨#[]⟩, .string ⟨#[]⟩, .slice none 0 0] from rfl] at SM
            clear XX HX
            go_wp2_with fail
            refine (CD _).mono ?_
            rintro e9 w9 ⟨rfl, hw9⟩
            rw [hw9]
            clear hw9 w9
            go_wp2_with fail
            refine SM.mono ?_
            clear SM
            rintro e9 wE ⟨rfl, bF⟩
            go_wp2
            go_ret
            exact ⟨rfl, bE.trans (bF.mono bE.size)⟩
          · obtain rfl : X = 3 := by rw [XX, if_neg (by omega)]
            have dd : ((d : Int) == 0) = false := by simpa using d0
            have dp : (0 : Int) < (d : Int) := by omega
            clear XX HX
            go_wp2_with fail
            refine (CD _).mono ?_
            rintro e9 w9 ⟨rfl, hw9⟩
            rw [hw9]
            clear hw9 w9
            go_wp2_with fail
            refine (CD _).mono ?_
            rintro e9 w9 ⟨rfl, hw9⟩
            rw [hw9]
            clear hw9 w9
            go_wp2
            go_ret
            exact ⟨rfl, bE⟩
    · have hI := sumQ (k := 13 + (m : Int)) (a := a) (b := b) (Q := nb (w2.heap.size + 1)) kA0 rfl (by unfold nb; omega)
      have C := expr13_err (noD zU zU zU) none [] 0 0 (sumT (13 + (m : Int)) a b) (nodeR (13 + (m : Int)) w2.heap.size 2) w3 rfl (ew_nil _ hf3 _ _ _) (openQ hI) (okEv_sum _ a b ha hb) hev
      simp only [noD, zU, nodeR] at C
      have p0 : w3.cell? ⟨w2.heap.size + 1, 0, none⟩ = some (.int .i64 (13 + (m : Int))) := by rw [Lib.cell_of_heap kA1]; rfl
      have p1 : w3.cell? ⟨w2.heap.size + 1, 1, none⟩ = some (.bool false) := by rw [Lib.cell_of_heap kA1]; rfl
      have p2 : w3.cell? ⟨w2.heap.size + 1, 2, none⟩ = some (.int .i64 0) := by rw [Lib.cell_of_heap kA1]; rfl
      have p3 : w3.cell? ⟨w2.heap.size + 1, 3, none⟩ = some (.string ⟨#[]⟩) := by rw [Lib.cell_of_heap kA1]; rfl
      have p4 : w3.cell? ⟨w2.heap.size + 1, 4, none⟩ = some (.string ⟨#[]⟩) := by rw [Lib.cell_of_heap kA1]; rfl
      have p5 : w3.cell? ⟨w2.heap.size + 1, 5, none⟩ = some (.string ⟨#[]⟩) := by rw [Lib.cell_of_heap kA1]; rfl
      have p6 : w3.cell? ⟨w2.heap.size + 1, 6, none⟩ = some (.slice (some ⟨w2.heap.size, 0, none⟩) 2 2) := by rw [Lib.cell_of_heap kA1]; rfl
      go_wp2_with fail
      refine C.mono ?_
      clear C
      rintro e9 w5 ⟨rfl, b5⟩
      have b6 := ev1 w5 (.cells #[.int .i64 0, .bool false, .int .i64 0, .string ⟨#[]⟩, .string ⟨#[]⟩, .string ⟨#[]⟩, .slice none 0 0] 46)
      have h6 := alloc_heap w5 (.cells #[.int .i64 0, .bool false, .int .i64 0, .string ⟨#[]⟩, .string ⟨#[]⟩, .string ⟨#[]⟩, .slice none 0 0] 46)
      have B6 := b5.trans (b6.mono b5.size)
      have hP6 := kept_of_below B6 kA1
      have hI6 := liftQ hI B6
      have b26 := bA.trans (B6.mono bA.size)
      have hVP : w5.heap.size ≠ w2.heap.size + 1 := by
        have := b5.size
        have := (Array.getElem?_eq_some_iff.1 kA1).1
        omega
      clear p0 p1 p2 p3 p4 p5 p6 hI
      go_upto_region 16 with fail
      generalize w5.alloc _ = w6 at *
      have v0 : w6.cell? ⟨w5.heap.size, 0, none⟩ = some (.int .i64 0) := by rw [Lib.cell_of_heap h6]; rfl
      have v2 : w6.cell? ⟨w5.heap.size, 2, none⟩ = some (.int .i64 0) := by rw [Lib.cell_of_heap h6]; rfl
      have cc : (c == c) = true := by simp
      go_wp2_with fail
      clear v0 v2 cc
      go_loopw [14] (fun iv wr => ∃ (i : Nat) (r : R7) (E : Ex), iv = .int .i64 i ∧ i ≤ d ∧ Below w2.heap.size w2 wr ∧ wr.heap[w2.heap.size + 1]? = some (.cells #[.int .i64 r.k, .bool r.b, .int .i64 r.n, .string r.s, .string r.t, .string r.i, .slice r.lo r.ll r.lc] 42 (0, 0)) ∧ wr.heap[w5.heap.size]? = some (.cells #[.int .i64 0, .bool false, .int .i64 0, .string ⟨#[]⟩, .string ⟨#[]⟩, .string ⟨#[]⟩, .slice none 0 0] 46 (0, 0)) ∧ IsE wr (nb (w2.heap.size + 1)) r E ∧ okEv E = true ∧ evalE (noD zU zU zU) E = .inr 17) (fun iv _ => d - (intOf iv).toNat)
      case atStart => exact ⟨0, nodeR (13 + (m : Int)) w2.heap.size 2, sumT (13 + (m : Int)) a b, by go_num, Nat.zero_le _, b26, hP6, h6, hI6, okEv_sum _ a b ha hb, hev⟩
      case round =>
        rename World => wr
        obtain ⟨i, r, E, rfl, hi, hbw, hP, hV, hQ, hok, hev⟩ := hrel
        have i0 : (0 : Int) ≤ (i : Int) := by omega
        clear hP6 h6 hI6
        by_cases hlt : i < d
        · have i1 : (i : Int) < (d : Int) := by omega
          have HV := hide hV
          have HQ := hide hQ
          have HOK := hide (okEv_wrap hok)
          have HEV := hide (wrap_err hev)
          clear hQ hok hev hV
          go_wp2_with fail
          refine (CD _).mono ?_
          rintro e9 w9 ⟨rfl, hw9⟩
          rw [hw9]
          clear hw9 w9
          have q0 : wr.cell? ⟨w2.heap.size + 1, 0, none⟩ = some (.int .i64 r.k) := by rw [Lib.cell_of_heap hP]; rfl
          have q1 : wr.cell? ⟨w2.heap.size + 1, 1, none⟩ = some (.bool r.b) := by rw [Lib.cell_of_heap hP]; rfl
          have q2 : wr.cell? ⟨w2.heap.size + 1, 2, none⟩ = some (.int .i64 r.n) := by rw [Lib.cell_of_heap hP]; rfl
          have q3 : wr.cell? ⟨w2.heap.size + 1, 3, none⟩ = some (.string r.s) := by rw [Lib.cell_of_heap hP]; rfl
          have q4 : wr.cell? ⟨w2.heap.size + 1, 4, none⟩ = some (.string r.t) := by rw [Lib.cell_of_heap hP]; rfl
          have q5 : wr.cell? ⟨w2.heap.size + 1, 5, none⟩ = some (.string r.i) := by rw [Lib.cell_of_heap hP]; rfl
          have q6 : wr.cell? ⟨w2.heap.size + 1, 6, none⟩ = some (.slice r.lo r.ll r.lc) := by rw [Lib.cell_of_heap hP]; rfl
          have df : ∀ o, wr.frozen? ⟨w2.heap.size + 1, o, none⟩ = false := fun o => Lib.frozen_of_heap hP o
          have hPlt : w2.heap.size + 1 < wr.heap.size := (Array.getElem?_eq_some_iff.1 hP).1
          have F1 := hide (show (fun wx : World => Below w2.heap.size w2 wx ∧ wx.heap[wr.heap.size]? = some (.cells #[.int .i64 2, .bool false, .int .i64 1, .string ⟨#[]⟩, .string ⟨#[]⟩, .string ⟨#[]⟩, .slice none 0 0, .int .i64 r.k, .bool r.b, .int .i64 r.n, .string r.s, .string r.t, .string r.i, .slice r.lo r.ll r.lc] 42 (0, 0)) ∧ wx.heap[w2.heap.size + 1]? = some (.cells #[.int .i64 6, .bool false, .int .i64 0, .string ⟨#[]⟩, .string ⟨#[]⟩, .string ⟨#[]⟩, .slice (some ⟨wr.heap.size, 0, none⟩) 2 2] 42 (0, 0)) ∧ (∀ b', b' ≠ w2.heap.size + 1 → b' < wr.heap.size → wx.heap[b']? = wr.heap[b']?) ∧ wx.heap.size = wr.heap.size + 1) ((set7S wr (w2.heap.size + 1) (.int .i64 6) (.bool false) (.int .i64 0) (.string ⟨#[]⟩) (.string ⟨#[]⟩) (.string ⟨#[]⟩) (.slice (some ⟨wr.heap.size, 0, none⟩) 2 2)).alloc (.cells #[.int .i64 2, .bool false, .int .i64 1, .string ⟨#[]⟩, .string ⟨#[]⟩, .string ⟨#[]⟩, .slice none 0 0, .int .i64 r.k, .bool r.b, .int .i64 r.n, .string r.s, .string r.t, .string r.i, .slice r.lo r.ll r.lc] 42)) from by
            obtain ⟨S, hS⟩ : ∃ S, S = set7S wr (w2.heap.size + 1) (.int .i64 6) (.bool false) (.int .i64 0) (.string ⟨#[]⟩) (.string ⟨#[]⟩) (.string ⟨#[]⟩) (.slice (some ⟨wr.heap.size, 0, none⟩) 2 2) := ⟨_, rfl⟩
            have zS : S.heap.size = wr.heap.size := by rw [hS, set7S_size]
            have pS := set7S_at hP (.int .i64 6) (.bool false) (.int .i64 0) (.string ⟨#[]⟩) (.string ⟨#[]⟩) (.string ⟨#[]⟩) (.slice (some ⟨wr.heap.size, 0, none⟩) 2 2)
            have kS := fun b' h => set7S_heap wr (w2.heap.size + 1) b' (.int .i64 6) (.bool false) (.int .i64 0) (.string ⟨#[]⟩) (.string ⟨#[]⟩) (.string ⟨#[]⟩) (.slice (some ⟨wr.heap.size, 0, none⟩) 2 2) h
            have bS := set7S_below hbw (Nat.le_succ _) (.int .i64 6) (.bool false) (.int .i64 0) (.string ⟨#[]⟩) (.string ⟨#[]⟩) (.string ⟨#[]⟩) (.slice (some ⟨wr.heap.size, 0, none⟩) 2 2)
            rw [← hS] at pS kS bS ⊢
            have bK := ev1 S (.cells #[.int .i64 2, .bool false, .int .i64 1, .string ⟨#[]⟩, .string ⟨#[]⟩, .string ⟨#[]⟩, .slice none 0 0, .int .i64 r.k, .bool r.b, .int .i64 r.n, .string r.s, .string r.t, .string r.i, .slice r.lo r.ll r.lc] 42)
            have hK := alloc_heap S (.cells #[.int .i64 2, .bool false, .int .i64 1, .string ⟨#[]⟩, .string ⟨#[]⟩, .string ⟨#[]⟩, .slice none 0 0, .int .i64 r.k, .bool r.b, .int .i64 r.n, .string r.s, .string r.t, .string r.i, .slice r.lo r.ll r.lc] 42)
            rw [zS] at hK
            exact ⟨bS.trans (bK.mono bS.size), hK, kept_of_below bK pS, fun b' h1 h2 => (bK.block b' (by omega)).trans (kS b' h1), by simp [zS]⟩)
          clear hP
          go_upto_region 21 with fail
          go_cut [] from 99 to 102 (fun wx => Below w2.heap.size w2 wx ∧ wx.heap[wr.heap.size]? = some (.cells #[.int .i64 2, .bool false, .int .i64 1, .string ⟨#[]⟩, .string ⟨#[]⟩, .string ⟨#[]⟩, .slice none 0 0, .int .i64 r.k, .bool r.b, .int .i64 r.n, .string r.s, .string r.t, .string r.i, .slice r.lo r.ll r.lc] 42 (0, 0)) ∧ wx.heap[w2.heap.size + 1]? = some (.cells #[.int .i64 6, .bool false, .int .i64 0, .string ⟨#[]⟩, .string ⟨#[]⟩, .string ⟨#[]⟩, .slice (some ⟨wr.heap.size, 0, none⟩) 2 2] 42 (0, 0)) ∧ (∀ b', b' ≠ w2.heap.size + 1 → b' < wr.heap.size → wx.heap[b']? = wr.heap[b']?) ∧ wx.heap.size = wr.heap.size + 1)
          case first =>
            go_wp2_with fail
            go_meet
            case rel => exact unhide F1
          case rest =>
            rename World => wx
            obtain ⟨bX, kX1, kXP, kX, zX⟩ := hcut
            clear F1 q0 q1 q2 q3 q4 q5 q6 df
            have q0 : wx.cell? ⟨w2.heap.size + 1, 0, none⟩ = some (.int .i64 6) := by rw [Lib.cell_of_heap kXP]; rfl
            have q1 : wx.cell? ⟨w2.heap.size + 1, 1, none⟩ = some (.bool false) := by rw [Lib.cell_of_heap kXP]; rfl
            have q2 : wx.cell? ⟨w2.heap.size + 1, 2, none⟩ = some (.int .i64 0) := by rw [Lib.cell_of_heap kXP]; rfl
            have q3 : wx.cell? ⟨w2.heap.size + 1, 3, none⟩ = some (.string ⟨#[]⟩) := by rw [Lib.cell_of_heap kXP]; rfl
            have q4 : wx.cell? ⟨w2.heap.size + 1, 4, none⟩ = some (.string ⟨#[]⟩) := by rw [Lib.cell_of_heap kXP]; rfl
            have q5 : wx.cell? ⟨w2.heap.size + 1, 5, none⟩ = some (.string ⟨#[]⟩) := by rw [Lib.cell_of_heap kXP]; rfl
            have q6 : wx.cell? ⟨w2.heap.size + 1, 6, none⟩ = some (.slice (some ⟨wr.heap.size, 0, none⟩) 2 2) := by rw [Lib.cell_of_heap kXP]; rfl
            have df : ∀ o, wx.frozen? ⟨w2.heap.size + 1, o, none⟩ = false := fun o => Lib.frozen_of_heap kXP o
            have hPlx : w2.heap.size + 1 < wx.heap.size := by omega
            have hPl2 : w2.heap.size < wx.heap.size := by omega
            have HG := hide (show (fun wq : World => Below w2.heap.size w2 wq ∧ wq.heap[w2.heap.size + 1]? = some (.cells #[.int .i64 (nodeR 25 (wx.heap.size + 1) 3).k, .bool (nodeR 25 (wx.heap.size + 1) 3).b, .int .i64 (nodeR 25 (wx.heap.size + 1) 3).n, .string (nodeR 25 (wx.heap.size + 1) 3).s, .string (nodeR 25 (wx.heap.size + 1) 3).t, .string (nodeR 25 (wx.heap.size + 1) 3).i, .slice (nodeR 25 (wx.heap.size + 1) 3).lo (nodeR 25 (wx.heap.size + 1) 3).ll (nodeR 25 (wx.heap.size + 1) 3).lc] 42 (0, 0)) ∧ wq.heap[w5.heap.size]? = some (.cells #[.int .i64 0, .bool false, .int .i64 0, .string ⟨#[]⟩, .string ⟨#[]⟩, .string ⟨#[]⟩, .slice none 0 0] 46 (0, 0)) ∧ IsE wq (nb (w2.heap.size + 1)) (nodeR 25 (wx.heap.size + 1) 3) (wrapT E)) (((set7S wx (w2.heap.size + 1) (.int .i64 25) (.bool false) (.int .i64 0) (.string ⟨#[]⟩) (.string ⟨#[]⟩) (.string ⟨#[]⟩) (.slice (some ⟨wx.heap.size + 1, 0, none⟩) 3 3)).alloc (.cells #[.int .i64 6, .bool false, .int .i64 0, .string ⟨#[]⟩, .string ⟨#[]⟩, .string ⟨#[]⟩, .slice (some ⟨wr.heap.size, 0, none⟩) 2 2, .int .i64 2, .bool false, .int .i64 1, .string ⟨#[]⟩, .string ⟨#[]⟩, .string ⟨#[]⟩, .slice none 0 0] 42)).alloc (.cells #[.int .i64 9, .bool false, .int .i64 0, .string ⟨#[]⟩, .string ⟨#[]⟩, .string ⟨#[]⟩, .slice (some ⟨wx.heap.size, 0, none⟩) 2 2, .int .i64 2, .bool false, .int .i64 3, .string ⟨#[]⟩, .string ⟨#[]⟩, .string ⟨#[]⟩, .slice none 0 0, .int .i64 2, .bool false, .int .i64 4, .string ⟨#[]⟩, .string ⟨#[]⟩, .string ⟨#[]⟩, .slice none 0 0] 42)) from by
              obtain ⟨S, hS⟩ : ∃ S, S = set7S wx (w2.heap.size + 1) (.int .i64 25) (.bool false) (.int .i64 0) (.string ⟨#[]⟩) (.string ⟨#[]⟩) (.string ⟨#[]⟩) (.slice (some ⟨wx.heap.size + 1, 0, none⟩) 3 3) := ⟨_, rfl⟩
              have zS : S.heap.size = wx.heap.size := by rw [hS, set7S_size]
              have pS := set7S_at kXP (.int .i64 25) (.bool false) (.int .i64 0) (.string ⟨#[]⟩) (.string ⟨#[]⟩) (.string ⟨#[]⟩) (.slice (some ⟨wx.heap.size + 1, 0, none⟩) 3 3)
              have kS := fun b' h => set7S_heap wx (w2.heap.size + 1) b' (.int .i64 25) (.bool false) (.int .i64 0) (.string ⟨#[]⟩) (.string ⟨#[]⟩) (.string ⟨#[]⟩) (.slice (some ⟨wx.heap.size + 1, 0, none⟩) 3 3) h
              have bS := set7S_below bX (Nat.le_succ _) (.int .i64 25) (.bool false) (.int .i64 0) (.string ⟨#[]⟩) (.string ⟨#[]⟩) (.string ⟨#[]⟩) (.slice (some ⟨wx.heap.size + 1, 0, none⟩) 3 3)
              rw [← hS] at pS kS bS ⊢
              obtain ⟨bY, zY, y2, y3⟩ := ev2 S (.cells #[.int .i64 6, .bool false, .int .i64 0, .string ⟨#[]⟩, .string ⟨#[]⟩, .string ⟨#[]⟩, .slice (some ⟨wr.heap.size, 0, none⟩) 2 2, .int .i64 2, .bool false, .int .i64 1, .string ⟨#[]⟩, .string ⟨#[]⟩, .string ⟨#[]⟩, .slice none 0 0] 42) (.cells #[.int .i64 9, .bool false, .int .i64 0, .string ⟨#[]⟩, .string ⟨#[]⟩, .string ⟨#[]⟩, .slice (some ⟨wx.heap.size, 0, none⟩) 2 2, .int .i64 2, .bool false, .int .i64 3, .string ⟨#[]⟩, .string ⟨#[]⟩, .string ⟨#[]⟩, .slice none 0 0, .int .i64 2, .bool false, .int .i64 4, .string ⟨#[]⟩, .string ⟨#[]⟩, .string ⟨#[]⟩, .slice none 0 0] 42)
              rw [zS] at y2 y3
              have y1 := kept_of_below bY ((kS _ (by omega)).trans kX1)
              have hVr := unhide HV
              have hVl := (Array.getElem?_eq_some_iff.1 hVr).1
              have y0 := kept_of_below bY ((kS _ hVP).trans ((kX _ hVP hVl).trans hVr))
              have hQx : IsE wx (nb (w2.heap.size + 1)) r E := IsE.turn (by omega) (fun b' h1 h2 => ⟨kX b' h1 h2, h1⟩) _ _ (unhide HQ)
              exact ⟨bS.trans (bY.mono bS.size), kept_of_below bY pS, y0, wrapQ (x1 := wr.heap.size) (x2 := wx.heap.size) y1 rfl (by unfold nb; omega) y2 rfl (by unfold nb; omega) y3 rfl (by unfold nb; omega) (liftQ (keepQ hQx (by omega) kS) bY)⟩)
            clear kX1 kXP kX zX bX
            go_wp2_with fail
            go_roundw
            case rel => exact ⟨i + 1, nodeR 25 (wx.heap.size + 1) 3, wrapT E, by go_num, by omega, (unhide HG).1, (unhide HG).2.1, (unhide HG).2.2.1, (unhide HG).2.2.2, unhide HOK, unhide HEV⟩
            case measure =>
              simp only [intOf]
              omega
        · have i1 : ¬ (i : Int) < (d : Int) := by omega
          have hid : i = d := by omega
          have C := expr13_err (noD zU zU zU) none [] 0 0 E r wr rfl (ew_nil _ (hf2.below hbw) _ _ _) (openQ hQ) hok hev
          simp only [noD, zU] at C
          clear hQ hok hev
          have q0 : wr.cell? ⟨w2.heap.size + 1, 0, none⟩ = some (.int .i64 r.k) := by rw [Lib.cell_of_heap hP]; rfl
          have q1 : wr.cell? ⟨w2.heap.size + 1, 1, none⟩ = some (.bool r.b) := by rw [Lib.cell_of_heap hP]; rfl
          have q2 : wr.cell? ⟨w2.heap.size + 1, 2, none⟩ = some (.int .i64 r.n) := by rw [Lib.cell_of_heap hP]; rfl
          have q3 : wr.cell? ⟨w2.heap.size + 1, 3, none⟩ = some (.string r.s) := by rw [Lib.cell_of_heap hP]; rfl
          have q4 : wr.cell? ⟨w2.heap.size + 1, 4, none⟩ = some (.string r.t) := by rw [Lib.cell_of_heap hP]; rfl
          have q5 : wr.cell? ⟨w2.heap.size + 1, 5, none⟩ = some (.string r.i) := by rw [Lib.cell_of_heap hP]; rfl
          have q6 : wr.cell? ⟨w2.heap.size + 1, 6, none⟩ = some (.slice r.lo r.ll r.lc) := by rw [Lib.cell_of_heap hP]; rfl
          go_wp2_with fail
          refine (CD _).mono ?_
          rintro e9 w9 ⟨rfl, hw9⟩
          rw [hw9]
          clear hw9 w9
          go_wp2_with fail
          refine C.mono ?_
          clear C
          rintro e9 w7 ⟨rfl, b7⟩
          have b8 := ev1 w7 (.cells #[.int .i64 0, .bool false, .int .i64 0, .string ⟨#[]⟩, .string ⟨#[]⟩, .string ⟨#[]⟩, .slice none 0 0] 46)
          have h8 := alloc_heap w7 (.cells #[.int .i64 0, .bool false, .int .i64 0, .string ⟨#[]⟩, .string ⟨#[]⟩, .string ⟨#[]⟩, .slice none 0 0] 46)
          have B8 := b7.trans (b8.mono b7.size)
          have hV8 := kept_of_below B8 hV
          have b28 := hbw.trans (B8.mono hbw.size)
          have bE := b02.trans (b28.mono b02.size)
          clear q0 q1 q2 q3 q4 q5 q6 hP hV
          go_upto_region 24 with fail
          generalize w7.alloc _ = w8 at *
          go_wp2
          go_ret
          exact ⟨rfl, bE⟩
end Go.Proofs.YtonfanfggfjbdaaGreat
