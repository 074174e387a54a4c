/-
  Package eval: what a tree comes to, plain; its contents in memory.
  Package eval: the contents' value; what they are asserted to be; where, number.
  Package eval: what a content is or is not; ofNumbers, ofVar, ofLeaf.
-/
import Derived.Test.YtbbongdnnmanlaaGreatExA
import Derived.Test.YtbbongdnnmanlaaGreatVfAl
import Derived.Test.YtbbongdnnmanlaaGreatEcGB
import Derived.Test.YtbbongdnnmanlaaGreatPlainAll
import Derived.Test.YtbbongdnnmanlaaGreatNumW
namespace Go.Proofs.YtbbongdnnmanlaaGreat
open Go.RowKit Go.Sort

/-- A request, the entities, who is in whom. -/
structure EvD where
  p : U2
  a : U2
  r : U2
  ps : List EntP
  f : U2 → U2 → Bool
/-- A value, or an error. -/
abbrev EvR := GV ⊕ Int
def okEG : GV → Prop
  | .pl (.long n) => InR n
  | .pl (.str s) => s.length < 4294967281
  | .pl _ => True
  | .set l => l.length ≤ 1048576
theorem smallG_of {g : GV} (h : okEG g) : smallG g := by
  cases g with
  | pl p => trivial
  | set l => exact h
def boolC (b : Bool) : EvR := .inl (.pl (.bool b))
def numC (x : Int) : EvR := if InR x then .inl (.pl (.long x)) else .inr 17
def uidC (u : U2) : EvR := .inl (.pl (.uid u.t.data.toList u.i.data.toList))
def varC (D : EvD) (s : List UInt8) : EvR := if s = cPrincipal then uidC D.p else if s = cAction then uidC D.a else if s = cResource then uidC D.r else .inr 15
def leafC (D : EvD) (k : Int) (b : Bool) (n : Int) (s t i : List UInt8) : EvR :=
  if k = 1 then boolC b else if k = 2 then .inl (.pl (.long n)) else if k = 3 then .inl (.pl (.str s)) else if k = 4 then .inl (.pl (.uid t i)) else if k = 5 then varC D s else .inr 13
def kindV : GV → Nat
  | .pl p => p.kind
  | .set _ => 5
def plsOf (l : List GV) : List PV := l.filterMap fun g => match g with
  | .pl p => some p
  | .set _ => none
def likeK : List GV → Bool
  | [] => true
  | g :: t => (g :: t).all fun x => decide (kindV x = kindV g) && decide (kindV x ≠ 5)
def setC (l : List GV) : EvR := if likeK l then (if (setOf lessP (plsOf l)).length ≤ 8 then .inl (.set (setOf lessP (plsOf l))) else .inr 4) else .inr 16
def numbersC (k : Int) (a b : GV) : EvR := match a, b with
  | .pl (.long x), .pl (.long y) => if k = 13 then numC (x * y) else if k = 14 then numC (x + y) else if k = 15 then numC (x - y) else if k = 16 then boolC (decide (x < y)) else if k = 17 then boolC (decide (x ≤ y)) else if k = 18 then boolC (decide (y < x)) else if k = 19 then boolC (decide (y ≤ x)) else .inr 13
  | _, _ => .inr 16
def holdsC (a b : GV) : EvR := match a with
  | .set l => boolC (hasG l b)
  | .pl _ => .inr 16
def isU (p : PV) : Bool := decide (p.kind = 4)
def uOf : PV → U2
  | .uid t i => ⟨ba t, ba i⟩
  | _ => ⟨⟨#[]⟩, ⟨#[]⟩⟩
/-- The uids that stand there, if nothing else does. -/
def uidsP : GV → Option (List U2)
  | .pl (.uid t i) => some [⟨ba t, ba i⟩]
  | .pl _ => none
  | .set l => if l.all isU then some (l.map uOf) else none
def inC (f : U2 → U2 → Bool) (a b : GV) : EvR := match a, uidsP b with
  | .pl (.uid t i), some l => boolC (l.any fun x => f ⟨ba t, ba i⟩ x)
  | _, _ => .inr 16
def twoC (D : EvD) (k : Int) (a b : GV) : EvR := if k = 9 then holdsC a b else if k = 20 then boolC (sameG a b) else if k = 21 then boolC (!sameG a b) else if k = 22 then inC D.f a b else numbersC k a b
def attrC (ps : List EntP) (u : U2) (n : ByteArray) : EvR := match findP ps u with
  | none => .inr 18
  | some p => match getP p.ats n with
    | none => .inr 15
    | some x => .inl x.2
def getC (ps : List EntP) (a : GV) (n : ByteArray) : EvR := match a with
  | .pl (.uid t i) => attrC ps ⟨ba t, ba i⟩ n
  | _ => .inr 16
def errC : EvR → Int
  | .inl _ => 0
  | .inr e => e
def hasC (ps : List EntP) (a : GV) (n : ByteArray) : EvR := if errC (getC ps a n) = 16 then .inr 16 else boolC (errC (getC ps a n) == 0)
def likeC (a : GV) (s : List UInt8) : EvR := match a with
  | .pl (.str x) => boolC (likeL s x false [])
  | _ => .inr 16
def notC (a : GV) : EvR := match a with
  | .pl (.bool x) => boolC (!x)
  | _ => .inr 16
def negC (a : GV) : EvR := match a with
  | .pl (.long x) => numC (-x)
  | _ => .inr 16
def oneC (D : EvD) (k : Int) (s : List UInt8) (a : GV) : EvR := if k = 7 then getC D.ps a (ba s) else if k = 8 then hasC D.ps a (ba s) else if k = 10 then likeC a s else if k = 11 then notC a else if k = 12 then negC a else .inr 13
def nodeC (D : EvD) (k : Int) (b : Bool) (n : Int) (s t i : List UInt8) (l : List GV) : EvR := if k = 6 then setC l else match l with
  | [] => leafC D k b n s t i
  | [x] => oneC D k s x
  | [x, y] => twoC D k x y
  | _ => .inr 13
def truC : EvR → Bool ⊕ Int
  | .inl (.pl (.bool b)) => .inl b
  | .inl _ => .inr 16
  | .inr e => .inr e
def truR : Bool ⊕ Int → EvR
  | .inl b => boolC b
  | .inr e => .inr e
def bothC (o : Bool) (a b : EvR) : EvR := match truC a with
  | .inr e => .inr e
  | .inl x => if x = o then boolC x else truR (truC b)
def ifC (c x y : EvR) : EvR := match truC c with
  | .inr e => .inr e
  | .inl b => if b then x else y
def allR : List EvR → List GV ⊕ Int
  | [] => .inl []
  | .inr e :: _ => .inr e
  | .inl g :: t => match allR t with
    | .inl gs => .inl (g :: gs)
    | .inr e => .inr e
def combC (D : EvD) (k : Int) (b : Bool) (n : Int) (s t i : List UInt8) (rs : List EvR) : EvR :=
  if (k = 23 ∨ k = 24) ∧ rs.length = 2 then bothC (decide (k = 24)) (rs.getD 0 (.inr 13)) (rs.getD 1 (.inr 13))
  else if k = 25 ∧ rs.length = 3 then ifC (rs.getD 0 (.inr 13)) (rs.getD 1 (.inr 13)) (rs.getD 2 (.inr 13))
  else match allR rs with
    | .inl gs => nodeC D k b n s t i gs
    | .inr e => .inr e
mutual
/-- What a tree comes to. -/
def evalE (D : EvD) : Ex → EvR
  | .mk k b n s t i l => combC D k b n s t i (evalA D l)
def evalA (D : EvD) : List Ex → List EvR
  | [] => []
  | e :: l => evalE D e :: evalA D l
end
theorem evalA_map (D : EvD) : ∀ l, evalA D l = l.map (evalE D)
  | [] => rfl
  | e :: l => by rw [evalA, evalA_map D l, List.map_cons]
theorem evalE_mk (D : EvD) (k : Int) (b : Bool) (n : Int) (s t i : List UInt8) (l : List Ex) : evalE D (.mk k b n s t i l) = combC D k b n s t i (l.map (evalE D)) := by
  rw [evalE, evalA_map]
mutual
/-- Such as the program reckons with: numbers of 64 bits, no text and no list very long. -/
def okEv : Ex → Bool
  | .mk _ _ n s _ _ l => decide (InR n) && decide (s.length < 4294967281) && decide (l.length ≤ 100000) && okEvL l
def okEvL : List Ex → Bool
  | [] => true
  | e :: l => okEv e && okEvL l
end
theorem okEvL_get : ∀ (l : List Ex) (j : Nat) (h : j < l.length), okEvL l = true → okEv l[j] = true
  | [], j, h, _ => absurd h (Nat.not_lt_zero _)
  | e :: l, 0, _, h => by
    unfold okEvL at h
    simp only [Bool.and_eq_true] at h
    exact h.1
  | e :: l, j + 1, hj, h => by
    unfold okEvL at h
    simp only [Bool.and_eq_true] at h
    exact okEvL_get l j (by simpa using hj) h.2

/-! ## In memory. -/

def plC : PV → Value
  | .bool b => .iface 65 (.bool b)
  | .long n => .iface 77 (.int .i64 n)
  | .str s => .iface 78 (.string (ba s))
  | .uid t i => .iface 79 (.agg #[.string (ba t), .string (ba i)])
/-- A set's list lies in a block of values, from its front on. -/
def TyV (w : World) (ao : Option Addr) : Prop := ∀ ad, ao = some ad → ad.off = 0 ∧ ∃ cur fz, w.heap[ad.block]? = some (.cells cur 31 fz)
theorem TyV.below {w w' : World} {ao : Option Addr} (h : TyV w ao) (hb : Below w.heap.size w w') : TyV w' ao := fun ad e => by
  obtain ⟨h0, cur, fz, hc⟩ := h ad e
  exact ⟨h0, cur, fz, kept_of_below hb hc⟩
/-- A content as the program holds it. -/
def IsC (w : World) (g : GV) (v : Value) : Prop := okEG g ∧ match g with
  | .pl p => v = plC p
  | .set l => ∃ ao c, v = .iface 76 (.slice ao l.length c) ∧ RowV w ao (l.map ofP) ∧ TyV w ao
theorem IsC.below {w w' : World} {g : GV} {v : Value} (h : IsC w g v) (hb : Below w.heap.size w w') : IsC w' g v := by
  obtain ⟨h0, h⟩ := h
  refine ⟨h0, ?_⟩
  cases g with
  | pl p => exact h
  | set l =>
    obtain ⟨ao, c, e, hr, ho⟩ := h
    exact ⟨ao, c, e, hr.below hb, ho.below hb⟩
def RC (w : World) : EvR → Value → Int → Prop
  | .inl g, v, k => k = 0 ∧ IsC w g v
  | .inr e, _, k => k = e ∧ e ≠ 0
theorem RC.below {w w' : World} {r : EvR} {v : Value} {k : Int} (h : RC w r v k) (hb : Below w.heap.size w w') : RC w' r v k := by
  cases r with
  | inl g => exact ⟨h.1, h.2.below hb⟩
  | inr e => exact h
theorem RC.err {w : World} {r : EvR} {v : Value} {k : Int} (h : RC w r v k) : k = errC r := by
  cases r with
  | inl g => exact h.1
  | inr e => exact h.1
/-- What is returned. -/
def RetC (w : World) (r : EvR) (e : Ending) : Prop := ∃ v k, e = .returned (.tuple #[v, .int .i64 k]) ∧ RC w r v k
theorem rc_err {w : World} (v : Value) {e : Int} (h : e ≠ 0) : RC w (.inr e) v e := ⟨rfl, h⟩
theorem rc_bool (w : World) (b : Bool) : RC w (boolC b) (.iface 65 (.bool b)) 0 := ⟨rfl, trivial, rfl⟩
theorem rc_uid (w : World) (t i : List UInt8) : RC w (.inl (.pl (.uid t i))) (.iface 79 (.agg #[.string (ba t), .string (ba i)])) 0 := ⟨rfl, trivial, rfl⟩
/-- .. of a truth. -/
def RT (r : Bool ⊕ Int) (b : Bool) (k : Int) : Prop := match r with
  | .inl x => k = 0 ∧ b = x
  | .inr e => k = e ∧ e ≠ 0
theorem RT.rc {w : World} {r : Bool ⊕ Int} {b : Bool} {k : Int} (h : RT r b k) : RC w (truR r) (.iface 65 (.bool b)) k := by
  cases r with
  | inl x =>
    obtain ⟨rfl, rfl⟩ := h
    exact rc_bool w b
  | inr e => exact h
def FitL (w : World) : Prop := 0 < w.heap.size ∧ ∃ m : Int, w.cell? ⟨0, 0, none⟩ = some (.int .i64 m)
theorem FitL.below {w w' : World} (h : FitL w) (hb : Below w.heap.size w w') : FitL w' := ⟨Nat.lt_of_lt_of_le h.1 hb.size, h.2.imp fun _ h2 => (hb.cell (p := ⟨0, 0, none⟩) h.1).trans h2⟩
/-- Entities in memory, for eval. -/
structure EW (w : World) (lo : Option Addr) (gs : List E4) (D : EvD) : Prop where
  row : RowG w lo 4 (gs.map E4.cells)
  all : AllEnt w (fun _ => True) gs D.ps
  len : gs.length ≤ 1048576
  inA : ∀ cap u a w', Below w.heap.size w w' → Calls Tryz.prog 60 #[.slice lo gs.length cap, .agg #[.string u.t, .string u.i], .agg #[.string a.t, .string a.i]] w' fun e w'' => e = .returned (.bool (D.f u a)) ∧ Below w'.heap.size w' w''
  ok : ∀ p ∈ D.ps, p.ats.length ≤ 1048576 ∧ ∀ a ∈ p.ats, okEG a.2
  fit : FitL w
theorem EW.below {w w' : World} {lo : Option Addr} {gs : List E4} {D : EvD} (h : EW w lo gs D) (hb : Below w.heap.size w w') : EW w' lo gs D :=
  ⟨h.row.below hb, h.all.below hb, h.len, fun cap u a w'' h2 => h.inA cap u a w'' (hb.trans (h2.mono hb.size)), h.ok, h.fit.below hb⟩
/-- The world that eval looks into. -/
def wV (lo : Option Addr) (n c : Nat) (D : EvD) : Value := .agg #[.slice lo n c, .string D.p.t, .string D.p.i, .string D.a.t, .string D.a.i, .string D.r.t, .string D.r.i]
def wO (lo : Option Addr) (n c : Nat) (D : EvD) : Obj := .cells #[.slice lo n c, .string D.p.t, .string D.p.i, .string D.a.t, .string D.a.i, .string D.r.t, .string D.r.i] 54

theorem ev1 (w : World) (o : Obj) : Below w.heap.size w (w.alloc o) := (Below.refl _ w).alloc (Nat.le_refl _) o
theorem ev2 (w : World) (o1 o2 : Obj) : Below w.heap.size w ((w.alloc o1).alloc o2) ∧ ((w.alloc o1).alloc o2).heap.size = w.heap.size + 2 ∧ ((w.alloc o1).alloc o2).heap[w.heap.size]? = some o1 ∧ ((w.alloc o1).alloc o2).heap[w.heap.size + 1]? = some o2 := by
  have b1 := ev1 w o1
  have b2 := ev1 (w.alloc o1) o2
  have h2 := alloc_heap (w.alloc o1) o2
  have z1 : (w.alloc o1).heap.size = w.heap.size + 1 := by simp
  rw [z1] at h2
  exact ⟨b1.trans (b2.mono b1.size), by simp, kept_of_below b2 (alloc_heap w o1), h2⟩
theorem ev3 (w : World) (o1 o2 o3 : Obj) : Below w.heap.size w (((w.alloc o1).alloc o2).alloc o3) ∧ (((w.alloc o1).alloc o2).alloc o3).heap.size = w.heap.size + 3 ∧ (((w.alloc o1).alloc o2).alloc o3).heap[w.heap.size]? = some o1 ∧ (((w.alloc o1).alloc o2).alloc o3).heap[w.heap.size + 1]? = some o2 ∧ (((w.alloc o1).alloc o2).alloc o3).heap[w.heap.size + 2]? = some o3 := by
  obtain ⟨b2, z2, h1, h2⟩ := ev2 w o1 o2
  have b3 := ev1 ((w.alloc o1).alloc o2) o3
  have h3 := alloc_heap ((w.alloc o1).alloc o2) o3
  rw [z2] at h3
  exact ⟨b2.trans (b3.mono b2.size), by simp, kept_of_below b3 h1, kept_of_below b3 h2, h3⟩
theorem ev4 (w : World) (o1 o2 o3 o4 : Obj) : Below w.heap.size w ((((w.alloc o1).alloc o2).alloc o3).alloc o4) ∧ ((((w.alloc o1).alloc o2).alloc o3).alloc o4).heap.size = w.heap.size + 4 ∧ ((((w.alloc o1).alloc o2).alloc o3).alloc o4).heap[w.heap.size]? = some o1 ∧ ((((w.alloc o1).alloc o2).alloc o3).alloc o4).heap[w.heap.size + 1]? = some o2 ∧ ((((w.alloc o1).alloc o2).alloc o3).alloc o4).heap[w.heap.size + 2]? = some o3 ∧ ((((w.alloc o1).alloc o2).alloc o3).alloc o4).heap[w.heap.size + 3]? = some o4 := by
  obtain ⟨b3, z3, h1, h2, h3⟩ := ev3 w o1 o2 o3
  have b4 := ev1 (((w.alloc o1).alloc o2).alloc o3) o4
  have h4 := alloc_heap (((w.alloc o1).alloc o2).alloc o3) o4
  rw [z3] at h4
  exact ⟨b3.trans (b4.mono b3.size), by simp, kept_of_below b4 h1, kept_of_below b4 h2, kept_of_below b4 h3, h4⟩
end Go.Proofs.YtbbongdnnmanlaaGreat

namespace Go.Proofs.YtbbongdnnmanlaaGreat
open Go.RowKit Go.Sort

set_option maxHeartbeats 400000 in
set_option maxRecDepth 100000 in
theorem ctruthVal_any (x : Bool) (w : World) :
    Calls Tryz.prog 106 #[.bool x] w fun e w' => e = .returned (ofP (.bool x)).val ∧ Below w.heap.size w w' := by
  go_enter Tryz.func106, Tryz.ntmps106
  go_wp2
  exact bodyPost_ret (v := .agg #[.int .i64 1, .bool x, .int .i64 0, .string ⟨#[]⟩, .string ⟨#[]⟩, .string ⟨#[]⟩, .slice none 0 0]) (by simp [results, Tryz.results106, go_sem]) rfl ⟨rfl, below1 _ _⟩
theorem cm_truth (v : Value) (w : World) : (method 282 65 v "chancel/eval.value").run Tryz.prog w = .ok (106, v) w := by kernel_rfl
theorem cn_truth (v : Value) (w : World) : (nilAhead 282 65 v "chancel/eval.value").run Tryz.prog w = .ok (some false) w := by kernel_rfl
theorem ce_truth (v : Array Value) (w : World) : (callFunc 106 v).run Tryz.prog w = .ok (.enter 106 v) w := by kernel_rfl

set_option maxHeartbeats 400000 in
set_option maxRecDepth 100000 in
theorem clongVal_any (x : Int) (w : World) :
    Calls Tryz.prog 107 #[.int .i64 x] w fun e w' => e = .returned (ofP (.long x)).val ∧ Below w.heap.size w w' := by
  go_enter Tryz.func107, Tryz.ntmps107
  go_wp2
  exact bodyPost_ret (v := .agg #[.int .i64 2, .bool false, .int .i64 x, .string ⟨#[]⟩, .string ⟨#[]⟩, .string ⟨#[]⟩, .slice none 0 0]) (by simp [results, Tryz.results107, go_sem]) rfl ⟨rfl, below1 _ _⟩
theorem cm_long (v : Value) (w : World) : (method 282 77 v "chancel/eval.value").run Tryz.prog w = .ok (107, v) w := by kernel_rfl
theorem cn_long (v : Value) (w : World) : (nilAhead 282 77 v "chancel/eval.value").run Tryz.prog w = .ok (some false) w := by kernel_rfl
theorem ce_long (v : Array Value) (w : World) : (callFunc 107 v).run Tryz.prog w = .ok (.enter 107 v) w := by kernel_rfl

set_option maxHeartbeats 400000 in
set_option maxRecDepth 100000 in
theorem cstrVal_any (x : List UInt8) (w : World) :
    Calls Tryz.prog 108 #[.string (ba x)] w fun e w' => e = .returned (ofP (.str x)).val ∧ Below w.heap.size w w' := by
  go_enter Tryz.func108, Tryz.ntmps108
  go_wp2
  exact bodyPost_ret (v := .agg #[.int .i64 3, .bool false, .int .i64 0, .string (ba x), .string ⟨#[]⟩, .string ⟨#[]⟩, .slice none 0 0]) (by simp [results, Tryz.results108, go_sem]) rfl ⟨rfl, below1 _ _⟩
theorem cm_str (v : Value) (w : World) : (method 282 78 v "chancel/eval.value").run Tryz.prog w = .ok (108, v) w := by kernel_rfl
theorem cn_str (v : Value) (w : World) : (nilAhead 282 78 v "chancel/eval.value").run Tryz.prog w = .ok (some false) w := by kernel_rfl
theorem ce_str (v : Array Value) (w : World) : (callFunc 108 v).run Tryz.prog w = .ok (.enter 108 v) w := by kernel_rfl

set_option maxHeartbeats 400000 in
set_option maxRecDepth 100000 in
theorem cuidVal_any (x y : List UInt8) (w : World) :
    Calls Tryz.prog 109 #[.agg #[.string (ba x), .string (ba y)]] w fun e w' => e = .returned (ofP (.uid x y)).val ∧ Below w.heap.size w w' := by
  go_enter Tryz.func109, Tryz.ntmps109
  go_wp2
  exact bodyPost_ret (v := .agg #[.int .i64 4, .bool false, .int .i64 0, .string ⟨#[]⟩, .string (ba x), .string (ba y), .slice none 0 0]) (by simp [results, Tryz.results109, go_sem]) rfl ⟨rfl, below2 _ _ _⟩
theorem cm_uid (v : Value) (w : World) : (method 282 79 v "chancel/eval.value").run Tryz.prog w = .ok (109, v) w := by kernel_rfl
theorem cn_uid (v : Value) (w : World) : (nilAhead 282 79 v "chancel/eval.value").run Tryz.prog w = .ok (some false) w := by kernel_rfl
theorem ce_uid (v : Array Value) (w : World) : (callFunc 109 v).run Tryz.prog w = .ok (.enter 109 v) w := by kernel_rfl

set_option maxHeartbeats 400000 in
set_option maxRecDepth 100000 in
theorem csetVal_any (ao : Option Addr) (n c : Nat) (w : World) :
    Calls Tryz.prog 37 #[.slice ao n c] w fun e w' => e = .returned (setR ao n c).val ∧ Below w.heap.size w w' := by
  go_enter Tryz.func37, Tryz.ntmps37
  go_wp2
  exact bodyPost_ret (v := .agg #[.int .i64 5, .bool false, .int .i64 0, .string ⟨#[]⟩, .string ⟨#[]⟩, .string ⟨#[]⟩, .slice ao n c]) (by simp [results, Tryz.results37, go_sem]) rfl ⟨rfl, below1 _ _⟩
theorem cm_set (v : Value) (w : World) : (method 282 76 v "chancel/eval.value").run Tryz.prog w = .ok (37, v) w := by kernel_rfl
theorem cn_set (v : Value) (w : World) : (nilAhead 282 76 v "chancel/eval.value").run Tryz.prog w = .ok (some false) w := by kernel_rfl
theorem ce_set (v : Array Value) (w : World) : (callFunc 37 v).run Tryz.prog w = .ok (.enter 37 v) w := by kernel_rfl
theorem ct_truth (v : Value) (w : World) : (Instr.typeAssert (.iface 65 v) 51 65 true).run Tryz.prog w = .ok (.tuple #[v, .bool true]) w := by kernel_rfl
theorem ct_long (v : Value) (w : World) : (Instr.typeAssert (.iface 77 v) 51 77 true).run Tryz.prog w = .ok (.tuple #[v, .bool true]) w := by kernel_rfl
theorem ct_str (v : Value) (w : World) : (Instr.typeAssert (.iface 78 v) 51 78 true).run Tryz.prog w = .ok (.tuple #[v, .bool true]) w := by kernel_rfl
theorem ct_uid (v : Value) (w : World) : (Instr.typeAssert (.iface 79 v) 51 79 true).run Tryz.prog w = .ok (.tuple #[v, .bool true]) w := by kernel_rfl
theorem ct_set (v : Value) (w : World) : (Instr.typeAssert (.iface 76 v) 51 76 true).run Tryz.prog w = .ok (.tuple #[v, .bool true]) w := by kernel_rfl
theorem co_truth (T : TypeId) (v : Value) (w : World) (h : T = 77 ∨ T = 78 ∨ T = 79 ∨ T = 76) : (Instr.typeAssert (.iface T v) 51 65 true).run Tryz.prog w = .ok (.tuple #[.bool false, .bool false]) w := by
  rcases h with rfl | rfl | rfl | rfl <;> kernel_rfl
theorem co_long (T : TypeId) (v : Value) (w : World) (h : T = 65 ∨ T = 78 ∨ T = 79 ∨ T = 76) : (Instr.typeAssert (.iface T v) 51 77 true).run Tryz.prog w = .ok (.tuple #[.int .i64 0, .bool false]) w := by
  rcases h with rfl | rfl | rfl | rfl <;> kernel_rfl
theorem co_str (T : TypeId) (v : Value) (w : World) (h : T = 65 ∨ T = 77 ∨ T = 79 ∨ T = 76) : (Instr.typeAssert (.iface T v) 51 78 true).run Tryz.prog w = .ok (.tuple #[.string ⟨#[]⟩, .bool false]) w := by
  rcases h with rfl | rfl | rfl | rfl <;> kernel_rfl
theorem co_uid (T : TypeId) (v : Value) (w : World) (h : T = 65 ∨ T = 77 ∨ T = 78 ∨ T = 76) : (Instr.typeAssert (.iface T v) 51 79 true).run Tryz.prog w = .ok (.tuple #[.agg #[.string ⟨#[]⟩, .string ⟨#[]⟩], .bool false]) w := by
  rcases h with rfl | rfl | rfl | rfl <;> kernel_rfl
theorem co_set (T : TypeId) (v : Value) (w : World) (h : T = 65 ∨ T = 77 ∨ T = 78 ∨ T = 79) : (Instr.typeAssert (.iface T v) 51 76 true).run Tryz.prog w = .ok (.tuple #[.slice none 0 0, .bool false]) w := by
  rcases h with rfl | rfl | rfl | rfl <;> kernel_rfl

/-- What is made of a content again. -/
theorem c_value {w : World} {g : GV} {v : Value} (h : IsC w g v) : ∃ (T : TypeId) (f : FuncId) (x : Value) (R : R7), v = .iface T x ∧ IsG w g R ∧ smallG g ∧
    (∀ w, (nilAhead 282 T x "chancel/eval.value").run Tryz.prog w = .ok (some false) w) ∧ (∀ w, (method 282 T x "chancel/eval.value").run Tryz.prog w = .ok (f, x) w) ∧ (∀ w, (callFunc f #[x]).run Tryz.prog w = .ok (.enter f #[x]) w) ∧
    (∀ w', Calls Tryz.prog f #[x] w' fun e w'' => e = .returned R.val ∧ Below w'.heap.size w' w'') := by
  obtain ⟨h0, h⟩ := h
  cases g with
  | pl p =>
    have h : v = plC p := h
    subst h
    cases p with
    | bool b => exact ⟨65, 106, _, ofP (.bool b), rfl, rfl, trivial, cn_truth _, cm_truth _, ce_truth _, fun w => ctruthVal_any b w⟩
    | long n => exact ⟨77, 107, _, ofP (.long n), rfl, rfl, trivial, cn_long _, cm_long _, ce_long _, fun w => clongVal_any n w⟩
    | str s => exact ⟨78, 108, _, ofP (.str s), rfl, rfl, trivial, cn_str _, cm_str _, ce_str _, fun w => cstrVal_any s w⟩
    | uid t i => exact ⟨79, 109, _, ofP (.uid t i), rfl, rfl, trivial, cn_uid _, cm_uid _, ce_uid _, fun w => cuidVal_any t i w⟩
  | set l =>
    obtain ⟨ao, c, rfl, hr, ho⟩ := h
    exact ⟨76, 37, _, setR ao l.length c, rfl, ⟨ao, c, rfl, hr, fun ad e => (ho ad e).1⟩, h0, cn_set _, cm_set _, ce_set _, fun w => csetVal_any ao l.length c w⟩
/-- What a content is. -/
theorem c_form {w : World} {g : GV} {v : Value} (h : IsC w g v) : ∃ T x, v = .iface T x ∧ ((T = 65 ∧ ∃ b, g = .pl (.bool b) ∧ x = .bool b) ∨ (T = 77 ∧ ∃ n, g = .pl (.long n) ∧ x = .int .i64 n ∧ InR n) ∨ (T = 78 ∧ ∃ s, g = .pl (.str s) ∧ x = .string (ba s) ∧ s.length < 4294967281) ∨ (T = 79 ∧ ∃ t i, g = .pl (.uid t i) ∧ x = .agg #[.string (ba t), .string (ba i)]) ∨ (T = 76 ∧ ∃ l ao c, g = .set l ∧ x = .slice ao l.length c ∧ RowV w ao (l.map ofP) ∧ TyV w ao ∧ l.length ≤ 1048576)) := by
  obtain ⟨h0, h⟩ := h
  cases g with
  | pl p =>
    have h : v = plC p := h
    subst h
    cases p with
    | bool b => exact ⟨_, _, rfl, .inl ⟨rfl, b, rfl, rfl⟩⟩
    | long n => exact ⟨_, _, rfl, .inr (.inl ⟨rfl, n, rfl, rfl, h0⟩)⟩
    | str s => exact ⟨_, _, rfl, .inr (.inr (.inl ⟨rfl, s, rfl, rfl, h0⟩))⟩
    | uid t i => exact ⟨_, _, rfl, .inr (.inr (.inr (.inl ⟨rfl, t, i, rfl, rfl⟩)))⟩
  | set l =>
    obtain ⟨ao, c, rfl, hr, ho⟩ := h
    exact ⟨_, _, rfl, .inr (.inr (.inr (.inr ⟨rfl, l, ao, c, rfl, rfl, hr, ho, h0⟩)))⟩

set_option maxHeartbeats 400000 in
set_option maxRecDepth 100000 in
theorem cwhere_any (f b : Bool) (w : World) :
    Calls Tryz.prog 32 #[.bool f, .bool b] w fun e w' => RetC w' (if f then boolC b else .inr 16) e ∧ Below w.heap.size w w' := by
  cases f
  · go_enter Tryz.func32, Tryz.ntmps32
    go_wp2
    go_ret2
    exact ⟨⟨_, _, rfl, rc_err _ (by decide)⟩, Below.refl _ _⟩
  · go_enter Tryz.func32, Tryz.ntmps32
    go_wp2
    go_ret2
    exact ⟨⟨_, _, rfl, rc_bool _ _⟩, Below.refl _ _⟩

set_option maxHeartbeats 400000 in
set_option maxRecDepth 100000 in
theorem cnumber_any (x : Int) (w : World) :
    Calls Tryz.prog 34 #[.int .i64 (nv x), .int .i64 (ne x)] w fun e w' => RetC w' (numC x) e ∧ Below w.heap.size w w' := by
  by_cases hx : InR x
  · rw [nv_ok hx, ne_ok hx]
    have HX := hide hx
    clear hx
    go_enter Tryz.func34, Tryz.ntmps34
    go_wp2
    go_ret2
    refine ⟨⟨_, _, rfl, ?_⟩, Below.refl _ _⟩
    unfold numC
    rw [if_pos (unhide HX)]
    exact ⟨rfl, unhide HX, rfl⟩
  · rw [nv_no hx, ne_no hx]
    have HX := hide hx
    clear hx
    go_enter Tryz.func34, Tryz.ntmps34
    go_wp2
    go_ret2
    refine ⟨⟨_, _, rfl, ?_⟩, Below.refl _ _⟩
    unfold numC
    rw [if_neg (unhide HX)]
    exact ⟨rfl, by decide⟩
end Go.Proofs.YtbbongdnnmanlaaGreat

namespace Go.Proofs.YtbbongdnnmanlaaGreat
open Go.RowKit Go.Sort

theorem c_bool {w : World} {g : GV} {v : Value} (h : IsC w g v) : (∃ b, g = .pl (.bool b) ∧ v = .iface 65 (.bool b)) ∨ ((∀ b, g ≠ .pl (.bool b)) ∧ ∃ T x, v = .iface T x ∧ ∀ W, (Instr.typeAssert (.iface T x) 51 65 true).run Tryz.prog W = .ok (.tuple #[.bool false, .bool false]) W) := by
  obtain ⟨T, x, rfl, h'⟩ := c_form h
  rcases h' with ⟨rfl, b, rfl, rfl⟩ | ⟨rfl, n, rfl, rfl, hn⟩ | ⟨rfl, s, rfl, rfl, hs⟩ | ⟨rfl, t, i, rfl, rfl⟩ | ⟨rfl, l, ao, c, rfl, rfl, hr, ho, hl⟩
  · exact .inl ⟨b, rfl, rfl⟩
  · exact .inr ⟨(fun _ e => by cases e), _, _, rfl, fun W => co_truth _ _ W (by simp)⟩
  · exact .inr ⟨(fun _ e => by cases e), _, _, rfl, fun W => co_truth _ _ W (by simp)⟩
  · exact .inr ⟨(fun _ e => by cases e), _, _, rfl, fun W => co_truth _ _ W (by simp)⟩
  · exact .inr ⟨(fun _ e => by cases e), _, _, rfl, fun W => co_truth _ _ W (by simp)⟩
theorem c_long {w : World} {g : GV} {v : Value} (h : IsC w g v) : (∃ n, g = .pl (.long n) ∧ v = .iface 77 (.int .i64 n) ∧ InR n) ∨ ((∀ n, g ≠ .pl (.long n)) ∧ ∃ T x, v = .iface T x ∧ ∀ W, (Instr.typeAssert (.iface T x) 51 77 true).run Tryz.prog W = .ok (.tuple #[.int .i64 0, .bool false]) W) := by
  obtain ⟨T, x, rfl, h'⟩ := c_form h
  rcases h' with ⟨rfl, b, rfl, rfl⟩ | ⟨rfl, n, rfl, rfl, hn⟩ | ⟨rfl, s, rfl, rfl, hs⟩ | ⟨rfl, t, i, rfl, rfl⟩ | ⟨rfl, l, ao, c, rfl, rfl, hr, ho, hl⟩
  · exact .inr ⟨(fun _ e => by cases e), _, _, rfl, fun W => co_long _ _ W (by simp)⟩
  · exact .inl ⟨n, rfl, rfl, hn⟩
  · exact .inr ⟨(fun _ e => by cases e), _, _, rfl, fun W => co_long _ _ W (by simp)⟩
  · exact .inr ⟨(fun _ e => by cases e), _, _, rfl, fun W => co_long _ _ W (by simp)⟩
  · exact .inr ⟨(fun _ e => by cases e), _, _, rfl, fun W => co_long _ _ W (by simp)⟩
theorem c_str {w : World} {g : GV} {v : Value} (h : IsC w g v) : (∃ s, g = .pl (.str s) ∧ v = .iface 78 (.string (ba s)) ∧ s.length < 4294967281) ∨ ((∀ s, g ≠ .pl (.str s)) ∧ ∃ T x, v = .iface T x ∧ ∀ W, (Instr.typeAssert (.iface T x) 51 78 true).run Tryz.prog W = .ok (.tuple #[.string ⟨#[]⟩, .bool false]) W) := by
  obtain ⟨T, x, rfl, h'⟩ := c_form h
  rcases h' with ⟨rfl, b, rfl, rfl⟩ | ⟨rfl, n, rfl, rfl, hn⟩ | ⟨rfl, s, rfl, rfl, hs⟩ | ⟨rfl, t, i, rfl, rfl⟩ | ⟨rfl, l, ao, c, rfl, rfl, hr, ho, hl⟩
  · exact .inr ⟨(fun _ e => by cases e), _, _, rfl, fun W => co_str _ _ W (by simp)⟩
  · exact .inr ⟨(fun _ e => by cases e), _, _, rfl, fun W => co_str _ _ W (by simp)⟩
  · exact .inl ⟨s, rfl, rfl, hs⟩
  · exact .inr ⟨(fun _ e => by cases e), _, _, rfl, fun W => co_str _ _ W (by simp)⟩
  · exact .inr ⟨(fun _ e => by cases e), _, _, rfl, fun W => co_str _ _ W (by simp)⟩
theorem c_uid {w : World} {g : GV} {v : Value} (h : IsC w g v) : (∃ t i, g = .pl (.uid t i) ∧ v = .iface 79 (.agg #[.string (ba t), .string (ba i)])) ∨ ((∀ t i, g ≠ .pl (.uid t i)) ∧ ∃ T x, v = .iface T x ∧ ∀ W, (Instr.typeAssert (.iface T x) 51 79 true).run Tryz.prog W = .ok (.tuple #[.agg #[.string ⟨#[]⟩, .string ⟨#[]⟩], .bool false]) W) := by
  obtain ⟨T, x, rfl, h'⟩ := c_form h
  rcases h' with ⟨rfl, b, rfl, rfl⟩ | ⟨rfl, n, rfl, rfl, hn⟩ | ⟨rfl, s, rfl, rfl, hs⟩ | ⟨rfl, t, i, rfl, rfl⟩ | ⟨rfl, l, ao, c, rfl, rfl, hr, ho, hl⟩
  · exact .inr ⟨(fun _ _ e => by cases e), _, _, rfl, fun W => co_uid _ _ W (by simp)⟩
  · exact .inr ⟨(fun _ _ e => by cases e), _, _, rfl, fun W => co_uid _ _ W (by simp)⟩
  · exact .inr ⟨(fun _ _ e => by cases e), _, _, rfl, fun W => co_uid _ _ W (by simp)⟩
  · exact .inl ⟨t, i, rfl, rfl⟩
  · exact .inr ⟨(fun _ _ e => by cases e), _, _, rfl, fun W => co_uid _ _ W (by simp)⟩
theorem c_set {w : World} {g : GV} {v : Value} (h : IsC w g v) : (∃ l ao c, g = .set l ∧ v = .iface 76 (.slice ao l.length c) ∧ RowV w ao (l.map ofP) ∧ TyV w ao ∧ l.length ≤ 1048576) ∨ ((∀ l, g ≠ .set l) ∧ ∃ T x, v = .iface T x ∧ ∀ W, (Instr.typeAssert (.iface T x) 51 76 true).run Tryz.prog W = .ok (.tuple #[.slice none 0 0, .bool false]) W) := by
  obtain ⟨T, x, rfl, h'⟩ := c_form h
  rcases h' with ⟨rfl, b, rfl, rfl⟩ | ⟨rfl, n, rfl, rfl, hn⟩ | ⟨rfl, s, rfl, rfl, hs⟩ | ⟨rfl, t, i, rfl, rfl⟩ | ⟨rfl, l, ao, c, rfl, rfl, hr, ho, hl⟩
  · exact .inr ⟨(fun _ e => by cases e), _, _, rfl, fun W => co_set _ _ W (by simp)⟩
  · exact .inr ⟨(fun _ e => by cases e), _, _, rfl, fun W => co_set _ _ W (by simp)⟩
  · exact .inr ⟨(fun _ e => by cases e), _, _, rfl, fun W => co_set _ _ W (by simp)⟩
  · exact .inr ⟨(fun _ e => by cases e), _, _, rfl, fun W => co_set _ _ W (by simp)⟩
  · exact .inl ⟨l, ao, c, rfl, rfl, hr, ho, hl⟩
theorem numbersC_l {k : Int} {a b : GV} (h : ∀ n, a ≠ .pl (.long n)) : numbersC k a b = .inr 16 := by
  unfold numbersC
  split
  · exact absurd rfl (h _)
  · rfl
theorem numbersC_r {k : Int} {a b : GV} (h : ∀ n, b ≠ .pl (.long n)) : numbersC k a b = .inr 16 := by
  unfold numbersC
  split
  · exact absurd rfl (h _)
  · rfl
theorem ne_beq {k n : Int} (h : ¬ k = n) : (k == n) = false := by simpa using h

set_option maxHeartbeats 4000000 in
set_option maxRecDepth 1000000 in
theorem numbers_any (k : Int) (a b : GV) (va vb : Value) (w : World) (ha : IsC w a va) (hb : IsC w b vb) :
    Calls Tryz.prog 40 #[.int .i64 k, va, vb] w fun e w' => RetC w' (numbersC k a b) e ∧ Below w.heap.size w w' := by
  have T := ct_long
  rcases c_long ha with ⟨n, rfl, rfl, hn⟩ | ⟨hna, S, x, rfl, TA⟩
  · rcases c_long hb with ⟨m, rfl, rfl, hm⟩ | ⟨hnb, U, y, rfl, TB⟩
    · clear ha hb
      by_cases h13 : k = 13
      · subst h13
        have HE : numbersC 13 (.pl (.long n)) (.pl (.long m)) = numC (n * m) := rfl
        rw [HE]
        clear HE 
        have C := mul_any n m hn hm w
        have N := cnumber_any (n * m) w
        generalize n * m = z at *
        have HN := hide hn
        have HM := hide hm
        clear hn hm
        go_enter Tryz.func40, Tryz.ntmps40
        go_wp2_with fail
        refine C.mono ?_
        rintro e w2 ⟨rfl, rfl⟩
        go_wp2_with fail
        refine N.mono ?_
        rintro e w3 ⟨⟨v, kk, rfl, hrc⟩, b3⟩
        have HR := hide hrc
        clear hrc C N
        go_wp2
        go_ret2
        exact ⟨⟨_, _, rfl, unhide HR⟩, b3⟩
      have g13 := ne_beq h13
      by_cases h14 : k = 14
      · subst h14
        have HE : numbersC 14 (.pl (.long n)) (.pl (.long m)) = numC (n + m) := rfl
        rw [HE]
        clear HE h13 g13
        have C := add_any n m hn hm w
        have N := cnumber_any (n + m) w
        generalize n + m = z at *
        have HN := hide hn
        have HM := hide hm
        clear hn hm
        go_enter Tryz.func40, Tryz.ntmps40
        go_wp2_with fail
        refine C.mono ?_
        rintro e w2 ⟨rfl, rfl⟩
        go_wp2_with fail
        refine N.mono ?_
        rintro e w3 ⟨⟨v, kk, rfl, hrc⟩, b3⟩
        have HR := hide hrc
        clear hrc C N
        go_wp2
        go_ret2
        exact ⟨⟨_, _, rfl, unhide HR⟩, b3⟩
      have g14 := ne_beq h14
      by_cases h15 : k = 15
      · subst h15
        have HE : numbersC 15 (.pl (.long n)) (.pl (.long m)) = numC (n - m) := rfl
        rw [HE]
        clear HE h13 g13 h14 g14
        have C := sub_any n m hn hm w
        have N := cnumber_any (n - m) w
        generalize n - m = z at *
        have HN := hide hn
        have HM := hide hm
        clear hn hm
        go_enter Tryz.func40, Tryz.ntmps40
        go_wp2_with fail
        refine C.mono ?_
        rintro e w2 ⟨rfl, rfl⟩
        go_wp2_with fail
        refine N.mono ?_
        rintro e w3 ⟨⟨v, kk, rfl, hrc⟩, b3⟩
        have HR := hide hrc
        clear hrc C N
        go_wp2
        go_ret2
        exact ⟨⟨_, _, rfl, unhide HR⟩, b3⟩
      have g15 := ne_beq h15
      by_cases h16 : k = 16
      · subst h16
        have HE : numbersC 16 (.pl (.long n)) (.pl (.long m)) = boolC (decide (n < m)) := rfl
        rw [HE]
        clear HE h13 g13 h14 g14 h15 g15
        have HN := hide hn
        have HM := hide hm
        clear hn hm
        go_enter Tryz.func40, Tryz.ntmps40
        go_wp2
        go_ret2
        exact ⟨⟨_, _, rfl, rc_bool _ _⟩, Below.refl _ _⟩
      have g16 := ne_beq h16
      by_cases h17 : k = 17
      · subst h17
        have HE : numbersC 17 (.pl (.long n)) (.pl (.long m)) = boolC (decide (n ≤ m)) := rfl
        rw [HE]
        clear HE h13 g13 h14 g14 h15 g15 h16 g16
        have HN := hide hn
        have HM := hide hm
        clear hn hm
        go_enter Tryz.func40, Tryz.ntmps40
        go_wp2
        go_ret2
        exact ⟨⟨_, _, rfl, rc_bool _ _⟩, Below.refl _ _⟩
      have g17 := ne_beq h17
      by_cases h18 : k = 18
      · subst h18
        have HE : numbersC 18 (.pl (.long n)) (.pl (.long m)) = boolC (decide (m < n)) := rfl
        rw [HE]
        clear HE h13 g13 h14 g14 h15 g15 h16 g16 h17 g17
        have HN := hide hn
        have HM := hide hm
        clear hn hm
        go_enter Tryz.func40, Tryz.ntmps40
        go_wp2
        go_ret2
        exact ⟨⟨_, _, rfl, rc_bool _ _⟩, Below.refl _ _⟩
      have g18 := ne_beq h18
      by_cases h19 : k = 19
      · subst h19
        have HE : numbersC 19 (.pl (.long n)) (.pl (.long m)) = boolC (decide (m ≤ n)) := rfl
        rw [HE]
        clear HE h13 g13 h14 g14 h15 g15 h16 g16 h17 g17 h18 g18
        have HN := hide hn
        have HM := hide hm
        clear hn hm
        go_enter Tryz.func40, Tryz.ntmps40
        go_wp2
        go_ret2
        exact ⟨⟨_, _, rfl, rc_bool _ _⟩, Below.refl _ _⟩
      have g19 := ne_beq h19
      have HE : numbersC k (.pl (.long n)) (.pl (.long m)) = .inr 13 := by
        unfold numbersC
        simp only [h13, h14, h15, h16, h17, h18, h19, if_false]
      rw [HE]
      clear HE hn hm h13 h14 h15 h16 h17 h18 h19
      go_enter Tryz.func40, Tryz.ntmps40
      go_wp2
      go_ret2
      exact ⟨⟨_, _, rfl, rc_err _ (by decide)⟩, Below.refl _ _⟩
    · rw [numbersC_r hnb]
      clear ha hb hnb hn
      go_enter Tryz.func40, Tryz.ntmps40
      go_wp2
      go_ret2
      exact ⟨⟨_, _, rfl, rc_err _ (by decide)⟩, Below.refl _ _⟩
  · rw [numbersC_l hna]
    rcases c_long hb with ⟨m, rfl, rfl, hm⟩ | ⟨hnb, U, y, rfl, TB⟩
    · clear ha hb hna hm
      go_enter Tryz.func40, Tryz.ntmps40
      go_wp2
      go_ret2
      exact ⟨⟨_, _, rfl, rc_err _ (by decide)⟩, Below.refl _ _⟩
    · clear ha hb hna hnb
      go_enter Tryz.func40, Tryz.ntmps40
      go_wp2
      go_ret2
      exact ⟨⟨_, _, rfl, rc_err _ (by decide)⟩, Below.refl _ _⟩

theorem rc_u2 (w : World) (u : U2) : RC w (uidC u) (.iface 79 (.agg #[.string u.t, .string u.i])) 0 := by
  have := rc_uid w u.t.data.toList u.i.data.toList
  exact this
theorem ba_ne {s l : List UInt8} (h : s ≠ l) : ((ba s).toList == l) = false := by
  rw [ba_list]
  simpa using h

set_option maxHeartbeats 2000000 in
set_option maxRecDepth 1000000 in
theorem var_any (lo : Option Addr) (n c : Nat) (D : EvD) (s : List UInt8) (w : World) :
    Calls Tryz.prog 30 #[wV lo n c D, .string (ba s)] w fun e w' => RetC w' (varC D s) e ∧ Below w.heap.size w w' := by
  have b1 := ev1 w (wO lo n c D)
  have k1 := alloc_heap w (wO lo n c D)
  unfold wV
  unfold wO at b1 k1
  by_cases hp : s = cPrincipal
  · subst hp
    have HE : varC D cPrincipal = uidC D.p := if_pos rfl
    rw [HE]
    clear HE
    have e0 : (ba cPrincipal : ByteArray) = ⟨#[112, 114, 105, 110, 99, 105, 112, 97, 108]⟩ := rfl
    rw [e0]
    go_enter Tryz.func30, Tryz.ntmps30
    go_upto_region 1 with fail
    generalize w.alloc _ = w1 at *
    have cw0 : w1.cell? ⟨w.heap.size, 0, none⟩ = some (.slice lo n c) := by rw [Lib.cell_of_heap k1]; rfl
    have cw1 : w1.cell? ⟨w.heap.size, 1, none⟩ = some (.string D.p.t) := by rw [Lib.cell_of_heap k1]; rfl
    have cw2 : w1.cell? ⟨w.heap.size, 2, none⟩ = some (.string D.p.i) := by rw [Lib.cell_of_heap k1]; rfl
    have cw3 : w1.cell? ⟨w.heap.size, 3, none⟩ = some (.string D.a.t) := by rw [Lib.cell_of_heap k1]; rfl
    have cw4 : w1.cell? ⟨w.heap.size, 4, none⟩ = some (.string D.a.i) := by rw [Lib.cell_of_heap k1]; rfl
    have cw5 : w1.cell? ⟨w.heap.size, 5, none⟩ = some (.string D.r.t) := by rw [Lib.cell_of_heap k1]; rfl
    have cw6 : w1.cell? ⟨w.heap.size, 6, none⟩ = some (.string D.r.i) := by rw [Lib.cell_of_heap k1]; rfl
    go_wp2
    go_ret2
    exact ⟨⟨_, _, rfl, rc_u2 _ _⟩, b1⟩
  have gp : ((ba s).toList == [112, 114, 105, 110, 99, 105, 112, 97, 108]) = false := ba_ne hp
  by_cases ha : s = cAction
  · subst ha
    have HE : varC D cAction = uidC D.a := by unfold varC; simp [cPrincipal, cAction]
    rw [HE]
    clear HE hp gp
    have e0 : (ba cAction : ByteArray) = ⟨#[97, 99, 116, 105, 111, 110]⟩ := rfl
    rw [e0]
    go_enter Tryz.func30, Tryz.ntmps30
    go_upto_region 1 with fail
    generalize w.alloc _ = w1 at *
    have cw0 : w1.cell? ⟨w.heap.size, 0, none⟩ = some (.slice lo n c) := by rw [Lib.cell_of_heap k1]; rfl
    have cw1 : w1.cell? ⟨w.heap.size, 1, none⟩ = some (.string D.p.t) := by rw [Lib.cell_of_heap k1]; rfl
    have cw2 : w1.cell? ⟨w.heap.size, 2, none⟩ = some (.string D.p.i) := by rw [Lib.cell_of_heap k1]; rfl
    have cw3 : w1.cell? ⟨w.heap.size, 3, none⟩ = some (.string D.a.t) := by rw [Lib.cell_of_heap k1]; rfl
    have cw4 : w1.cell? ⟨w.heap.size, 4, none⟩ = some (.string D.a.i) := by rw [Lib.cell_of_heap k1]; rfl
    have cw5 : w1.cell? ⟨w.heap.size, 5, none⟩ = some (.string D.r.t) := by rw [Lib.cell_of_heap k1]; rfl
    have cw6 : w1.cell? ⟨w.heap.size, 6, none⟩ = some (.string D.r.i) := by rw [Lib.cell_of_heap k1]; rfl
    go_wp2
    go_ret2
    exact ⟨⟨_, _, rfl, rc_u2 _ _⟩, b1⟩
  have ga : ((ba s).toList == [97, 99, 116, 105, 111, 110]) = false := ba_ne ha
  by_cases hr : s = cResource
  · subst hr
    have HE : varC D cResource = uidC D.r := by unfold varC; simp [cPrincipal, cAction, cResource]
    rw [HE]
    clear HE hp gp ha ga
    have e0 : (ba cResource : ByteArray) = ⟨#[114, 101, 115, 111, 117, 114, 99, 101]⟩ := rfl
    rw [e0]
    go_enter Tryz.func30, Tryz.ntmps30
    go_upto_region 1 with fail
    generalize w.alloc _ = w1 at *
    have cw0 : w1.cell? ⟨w.heap.size, 0, none⟩ = some (.slice lo n c) := by rw [Lib.cell_of_heap k1]; rfl
    have cw1 : w1.cell? ⟨w.heap.size, 1, none⟩ = some (.string D.p.t) := by rw [Lib.cell_of_heap k1]; rfl
    have cw2 : w1.cell? ⟨w.heap.size, 2, none⟩ = some (.string D.p.i) := by rw [Lib.cell_of_heap k1]; rfl
    have cw3 : w1.cell? ⟨w.heap.size, 3, none⟩ = some (.string D.a.t) := by rw [Lib.cell_of_heap k1]; rfl
    have cw4 : w1.cell? ⟨w.heap.size, 4, none⟩ = some (.string D.a.i) := by rw [Lib.cell_of_heap k1]; rfl
    have cw5 : w1.cell? ⟨w.heap.size, 5, none⟩ = some (.string D.r.t) := by rw [Lib.cell_of_heap k1]; rfl
    have cw6 : w1.cell? ⟨w.heap.size, 6, none⟩ = some (.string D.r.i) := by rw [Lib.cell_of_heap k1]; rfl
    go_wp2
    go_ret2
    exact ⟨⟨_, _, rfl, rc_u2 _ _⟩, b1⟩
  have gr : ((ba s).toList == [114, 101, 115, 111, 117, 114, 99, 101]) = false := ba_ne hr
  have HE : varC D s = .inr 15 := by unfold varC; rw [if_neg hp, if_neg ha, if_neg hr]
  rw [HE]
  clear HE hp ha hr
  generalize ba s = sb at *
  go_enter Tryz.func30, Tryz.ntmps30
  go_upto_region 1 with fail
  generalize w.alloc _ = w1 at *
  go_wp2
  go_ret2
  exact ⟨⟨_, _, rfl, rc_err _ (by decide)⟩, b1⟩

set_option maxHeartbeats 4000000 in
set_option maxRecDepth 1000000 in
theorem leaf_any (lo : Option Addr) (n c : Nat) (D : EvD) (k : Int) (b : Bool) (m : Int) (s t i : List UInt8) (eo : Option Addr) (el ec : Nat) (w : World) (hm : InR m) (hs : s.length < 4294967281) :
    Calls Tryz.prog 24 #[wV lo n c D, .agg #[.int .i64 k, .bool b, .int .i64 m, .string (ba s), .string (ba t), .string (ba i), .slice eo el ec]] w fun e w' => RetC w' (leafC D k b m s t i) e ∧ Below w.heap.size w w' := by
  have HM := hide hm
  have HS := hide hs
  clear hm hs
  obtain ⟨b1, z1, k1, k2⟩ := ev2 w (wO lo n c D) (.cells #[.int .i64 k, .bool b, .int .i64 m, .string (ba s), .string (ba t), .string (ba i), .slice eo el ec] 35)
  have V := var_any lo n c D s
  unfold wV at *
  unfold wO at b1 k1 k2 z1
  obtain ⟨r, hr⟩ : ∃ r, r = leafC D k b m s t i := ⟨_, rfl⟩
  rw [← hr]
  have HR := hide hr
  clear hr
  obtain ⟨sb, hsb⟩ : ∃ sb, sb = ba s := ⟨_, rfl⟩
  rw [← hsb] at V ⊢ b1 k2 z1 k1
  have HSB := hide hsb
  clear hsb
  go_enter Tryz.func24, Tryz.ntmps24
  go_upto_region 1 with fail
  generalize (w.alloc _).alloc _ = w1 at *
  clear z1
  have cw0 : w1.cell? ⟨w.heap.size, 0, none⟩ = some (.slice lo n c) := by rw [Lib.cell_of_heap k1]; rfl
  have cw1 : w1.cell? ⟨w.heap.size, 1, none⟩ = some (.string D.p.t) := by rw [Lib.cell_of_heap k1]; rfl
  have cw2 : w1.cell? ⟨w.heap.size, 2, none⟩ = some (.string D.p.i) := by rw [Lib.cell_of_heap k1]; rfl
  have cw3 : w1.cell? ⟨w.heap.size, 3, none⟩ = some (.string D.a.t) := by rw [Lib.cell_of_heap k1]; rfl
  have cw4 : w1.cell? ⟨w.heap.size, 4, none⟩ = some (.string D.a.i) := by rw [Lib.cell_of_heap k1]; rfl
  have cw5 : w1.cell? ⟨w.heap.size, 5, none⟩ = some (.string D.r.t) := by rw [Lib.cell_of_heap k1]; rfl
  have cw6 : w1.cell? ⟨w.heap.size, 6, none⟩ = some (.string D.r.i) := by rw [Lib.cell_of_heap k1]; rfl
  have ce0 : w1.cell? ⟨w.heap.size + 1, 0, none⟩ = some (.int .i64 k) := by rw [Lib.cell_of_heap k2]; rfl
  have ce1 : w1.cell? ⟨w.heap.size + 1, 1, none⟩ = some (.bool b) := by rw [Lib.cell_of_heap k2]; rfl
  have ce2 : w1.cell? ⟨w.heap.size + 1, 2, none⟩ = some (.int .i64 m) := by rw [Lib.cell_of_heap k2]; rfl
  have ce3 : w1.cell? ⟨w.heap.size + 1, 3, none⟩ = some (.string sb) := by rw [Lib.cell_of_heap k2]; rfl
  have ce4 : w1.cell? ⟨w.heap.size + 1, 4, none⟩ = some (.string (ba t)) := by rw [Lib.cell_of_heap k2]; rfl
  have ce5 : w1.cell? ⟨w.heap.size + 1, 5, none⟩ = some (.string (ba i)) := by rw [Lib.cell_of_heap k2]; rfl
  have ce6 : w1.cell? ⟨w.heap.size + 1, 6, none⟩ = some (.slice eo el ec) := by rw [Lib.cell_of_heap k2]; rfl
  by_cases h1 : k = 1
  · subst h1
    go_wp2
    go_ret2
    refine ⟨⟨_, _, rfl, ?_⟩, b1⟩
    rw [unhide HR, show leafC D 1 b m s t i = boolC b from rfl]
    exact rc_bool _ _
  have g1 := ne_beq h1
  by_cases h2 : k = 2
  · subst h2
    go_wp2
    go_ret2
    refine ⟨⟨_, _, rfl, ?_⟩, b1⟩
    rw [unhide HR, show leafC D 2 b m s t i = .inl (.pl (.long m)) from rfl]
    exact ⟨rfl, unhide HM, rfl⟩
  have g2 := ne_beq h2
  by_cases h3 : k = 3
  · subst h3
    go_wp2
    go_ret2
    refine ⟨⟨_, _, rfl, ?_⟩, b1⟩
    rw [unhide HR, show leafC D 3 b m s t i = .inl (.pl (.str s)) from rfl]
    exact ⟨rfl, unhide HS, by rw [unhide HSB]; rfl⟩
  have g3 := ne_beq h3
  by_cases h4 : k = 4
  · subst h4
    go_wp2
    go_ret2
    refine ⟨⟨_, _, rfl, ?_⟩, b1⟩
    rw [unhide HR, show leafC D 4 b m s t i = .inl (.pl (.uid t i)) from rfl]
    exact rc_uid _ _ _
  have g4 := ne_beq h4
  by_cases h5 : k = 5
  · subst h5
    have V := V w1
    go_wp2_with fail
    refine V.mono ?_
    rintro e w3 ⟨⟨v, kk, rfl, hrc⟩, b3⟩
    have H3 := hide hrc
    clear hrc V
    go_wp2
    go_ret2
    refine ⟨⟨_, _, rfl, ?_⟩, b1.trans (b3.mono b1.size)⟩
    rw [unhide HR, show leafC D 5 b m s t i = varC D s from rfl]
    exact unhide H3
  have g5 := ne_beq h5
  have HE : r = .inr 13 := by
    rw [unhide HR]
    unfold leafC
    rw [if_neg h1, if_neg h2, if_neg h3, if_neg h4, if_neg h5]
  have HE := hide HE
  clear h1 h2 h3 h4 h5
  go_wp2
  go_ret2
  refine ⟨⟨_, _, rfl, ?_⟩, b1⟩
  rw [unhide HE]
  exact rc_err _ (by decide)
end Go.Proofs.YtbbongdnnmanlaaGreat
