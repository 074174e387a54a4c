/-
  Plain facts on reading commands (no program in it).
-/
import Derived.Test.YtkeljejddfpnmaaDoorPkR
import Derived.Test.YtkeljejddfpnmaaDoorKFrmP
namespace Go.Proofs.YtkeljejddfpnmaaDoor
open Go.RowKit Go.Sort

/-- The next n bytes, and what is behind them. -/
def rdO (n : Nat) (l : List UInt8) : Option (List UInt8 × List UInt8) := if n ≤ l.length then some (l.take n, l.drop n) else none
def parseO (l : List UInt8) : Option (C5 × List UInt8) :=
  (rdO 1 l).bind fun a => (rdO 8 a.2).bind fun b => (rdO 1 b.2).bind fun c => (rdO 2 c.2).bind fun d => (rdO (beV d.1) d.2).bind fun e => (rdO 2 e.2).bind fun f => (rdO (beV f.1) f.2).map fun g => (⟨numV a.1, numV b.1, numV c.1, ⟨e.1.toArray⟩, ⟨g.1.toArray⟩⟩, g.2)
def zeroC : C5 := ⟨0, 0, 0, ⟨#[]⟩, ⟨#[]⟩⟩
def pcmd (l : List UInt8) : C5 × Int := match parseO l with
  | none => (zeroC, 8)
  | some (c, r) => if r = [] then (if errC c = 0 then (c, 0) else (zeroC, errC c)) else (zeroC, 9)

theorem rdO_some {n : Nat} {l : List UInt8} {x : List UInt8 × List UInt8} (h : rdO n l = some x) : n ≤ l.length ∧ x = (l.take n, l.drop n) := by
  unfold rdO at h
  split at h
  · exact ⟨by assumption, (Option.some.inj h).symm⟩
  · cases h
theorem rdO_none {n : Nat} {l : List UInt8} (h : rdO n l = none) : l.length < n := by
  unfold rdO at h
  split at h
  · cases h
  · omega
theorem rdO_le {n : Nat} {l : List UInt8} (h : n ≤ l.length) : rdO n l = some (l.take n, l.drop n) := if_pos h

/-! ## By pack's reader. -/

theorem nxt_cut {n : Nat} {s : RS} (h : s.cut = true) : (nxt n s).cut = true := by
  unfold nxt
  split
  · exact h
  · rfl
theorem nxt_no {n : Nat} {l : List UInt8} {b d : Bool} (h : rdO n l = none) : (nxt n ⟨l, b, d⟩).cut = true := by
  unfold nxt
  rw [if_neg (by have := rdO_none h; simp; omega)]
theorem nxt_ok {n : Nat} {l : List UInt8} {x : List UInt8 × List UInt8} (h : rdO n l = some x) : nxt n ⟨l, false, false⟩ = ⟨x.2, false, false⟩ ∧ frt n ⟨l, false, false⟩ = x.1 := by
  obtain ⟨h1, rfl⟩ := rdO_some h
  unfold nxt frt
  rw [if_pos h1, if_pos h1]
  exact ⟨rfl, rfl⟩
theorem nxt_bad (n : Nat) (s : RS) : (nxt n s).bad = s.bad := by
  unfold nxt
  split <;> rfl
def txtN (s : RS) : Nat := beV (frt 2 s)
def txtV (s : RS) : List UInt8 := frt (txtN s) (nxt 2 s)
def txtS (s : RS) : RS := nxt (txtN s) (nxt 2 s)
def cmdV (s : RS) : C5 := ⟨val 1 s, val 8 (nxt 1 s), val 1 (nxt 8 (nxt 1 s)), ⟨(txtV (nxt 1 (nxt 8 (nxt 1 s)))).toArray⟩, ⟨(txtV (txtS (nxt 1 (nxt 8 (nxt 1 s))))).toArray⟩⟩
def cmdS (s : RS) : RS := txtS (txtS (nxt 1 (nxt 8 (nxt 1 s))))
theorem txtS_cut {s : RS} (h : s.cut = true) : (txtS s).cut = true := nxt_cut (nxt_cut h)
def fltE (s : RS) : Int := if s.cut then 8 else if s.bad then 31 else if 0 < s.l.length then 9 else 0
theorem cmdS_bad (s : RS) : (cmdS s).bad = s.bad := by simp only [cmdS, txtS, nxt_bad]

theorem cmd_none (l : List UInt8) (h : parseO l = none) : (cmdS ⟨l, false, false⟩).cut = true := by
  unfold parseO at h
  unfold cmdS
  cases h1 : rdO 1 l with
  | none => exact txtS_cut (txtS_cut (nxt_cut (nxt_cut (nxt_no h1))))
  | some a =>
    rw [h1, Option.bind_some] at h
    rw [(nxt_ok h1).1]
    cases h2 : rdO 8 a.2 with
    | none => exact txtS_cut (txtS_cut (nxt_cut (nxt_no h2)))
    | some b =>
      rw [h2, Option.bind_some] at h
      rw [(nxt_ok h2).1]
      cases h3 : rdO 1 b.2 with
      | none => exact txtS_cut (txtS_cut (nxt_no h3))
      | some c =>
        rw [h3, Option.bind_some] at h
        rw [(nxt_ok h3).1]
        cases h4 : rdO 2 c.2 with
        | none => exact txtS_cut (nxt_cut (nxt_no h4))
        | some d =>
          rw [h4, Option.bind_some] at h
          have e4 : txtS ⟨c.2, false, false⟩ = nxt (beV d.1) ⟨d.2, false, false⟩ := by unfold txtS txtN; rw [(nxt_ok h4).1, (nxt_ok h4).2]
          rw [e4]
          cases h5 : rdO (beV d.1) d.2 with
          | none => exact txtS_cut (nxt_no h5)
          | some e =>
            rw [h5, Option.bind_some] at h
            rw [(nxt_ok h5).1]
            cases h6 : rdO 2 e.2 with
            | none => exact nxt_cut (nxt_no h6)
            | some f =>
              rw [h6, Option.bind_some] at h
              have e6 : txtS ⟨e.2, false, false⟩ = nxt (beV f.1) ⟨f.2, false, false⟩ := by unfold txtS txtN; rw [(nxt_ok h6).1, (nxt_ok h6).2]
              rw [e6]
              cases h7 : rdO (beV f.1) f.2 with
              | none => exact nxt_no h7
              | some g => rw [h7] at h; cases h
theorem parseO_some {l : List UInt8} {c : C5} {r : List UInt8} (h : parseO l = some (c, r)) : ∃ x1 x2 x3 x4 x5 x6 x7, rdO 1 l = some x1 ∧ rdO 8 x1.2 = some x2 ∧ rdO 1 x2.2 = some x3 ∧ rdO 2 x3.2 = some x4 ∧ rdO (beV x4.1) x4.2 = some x5 ∧ rdO 2 x5.2 = some x6 ∧ rdO (beV x6.1) x6.2 = some x7 ∧ c = ⟨numV x1.1, numV x2.1, numV x3.1, ⟨x5.1.toArray⟩, ⟨x7.1.toArray⟩⟩ ∧ r = x7.2 := by
  unfold parseO at h
  obtain ⟨x1, h1, h⟩ := Option.bind_eq_some_iff.1 h
  obtain ⟨x2, h2, h⟩ := Option.bind_eq_some_iff.1 h
  obtain ⟨x3, h3, h⟩ := Option.bind_eq_some_iff.1 h
  obtain ⟨x4, h4, h⟩ := Option.bind_eq_some_iff.1 h
  obtain ⟨x5, h5, h⟩ := Option.bind_eq_some_iff.1 h
  obtain ⟨x6, h6, h⟩ := Option.bind_eq_some_iff.1 h
  obtain ⟨x7, h7, h⟩ := Option.map_eq_some_iff.1 h
  cases h
  exact ⟨x1, x2, x3, x4, x5, x6, x7, h1, h2, h3, h4, h5, h6, h7, rfl, rfl⟩
theorem cmd_some (l : List UInt8) (c : C5) (r : List UInt8) (h : parseO l = some (c, r)) : cmdV ⟨l, false, false⟩ = c ∧ cmdS ⟨l, false, false⟩ = ⟨r, false, false⟩ := by
  obtain ⟨x1, x2, x3, x4, x5, x6, x7, h1, h2, h3, h4, h5, h6, h7, rfl, rfl⟩ := parseO_some h
  have e4 : txtS ⟨x3.2, false, false⟩ = ⟨x5.2, false, false⟩ := by unfold txtS txtN; rw [(nxt_ok h4).1, (nxt_ok h4).2, (nxt_ok h5).1]
  have v4 : txtV ⟨x3.2, false, false⟩ = x5.1 := by unfold txtV txtN; rw [(nxt_ok h4).1, (nxt_ok h4).2, (nxt_ok h5).2]
  have e6 : txtS ⟨x5.2, false, false⟩ = ⟨x7.2, false, false⟩ := by unfold txtS txtN; rw [(nxt_ok h6).1, (nxt_ok h6).2, (nxt_ok h7).1]
  have v6 : txtV ⟨x5.2, false, false⟩ = x7.1 := by unfold txtV txtN; rw [(nxt_ok h6).1, (nxt_ok h6).2, (nxt_ok h7).2]
  unfold cmdV cmdS val
  rw [(nxt_ok h1).1, (nxt_ok h1).2, (nxt_ok h2).1, (nxt_ok h2).2, (nxt_ok h3).1, (nxt_ok h3).2, e4, v4, e6, v6]
  exact ⟨rfl, rfl⟩
/-- What pack answers is the plain reading. -/
theorem pcmd_pack (l : List UInt8) : pcmd l = if fltE (cmdS ⟨l, false, false⟩) = 0 then (if errC (cmdV ⟨l, false, false⟩) = 0 then (cmdV ⟨l, false, false⟩, 0) else (zeroC, errC (cmdV ⟨l, false, false⟩))) else (zeroC, fltE (cmdS ⟨l, false, false⟩)) := by
  unfold pcmd
  cases h : parseO l with
  | none =>
    have := cmd_none l h
    unfold fltE
    rw [this]
    simp
  | some x =>
    obtain ⟨c, r⟩ := x
    obtain ⟨h1, h2⟩ := cmd_some l c r h
    rw [h1, h2]
    unfold fltE
    simp only [Bool.false_eq_true, if_false]
    cases r with
    | nil => simp
    | cons a t => simp

/-! ## There and back. -/

theorem foldV (l : List UInt8) : ∀ v : Nat, l.foldl (fun v b => v * 256 + b.toNat) v = v * 256 ^ l.length + beV l := by
  induction l with
  | nil => intro v; simp [beV]
  | cons b l ih =>
    intro v
    have h1 := ih (v * 256 + b.toNat)
    have h2 := ih b.toNat
    have e : beV (b :: l) = l.foldl (fun v b => v * 256 + b.toNat) b.toNat := by simp [beV]
    rw [List.foldl_cons, h1, e, h2, List.length_cons, Nat.pow_succ, Nat.add_mul, Nat.mul_assoc, Nat.mul_comm 256]
    omega
theorem beV_cons (b : UInt8) (l : List UInt8) : beV (b :: l) = b.toNat * 256 ^ l.length + beV l := by
  rw [beV, List.foldl_cons, Nat.zero_mul, Nat.zero_add, foldV]
theorem byteAt_nat (X k : Nat) : (byteAt (X : Int) k).toNat = X / 256 ^ k % 256 := by
  have := byteAt_val (X : Int) k
  rw [IntKind.wrap_u8', show (2 : Int) ^ (8 * k) = ((256 ^ k : Nat) : Int) by rw [Int.pow_mul]; simp] at this
  have h2 : ((X : Int) / ((256 ^ k : Nat) : Int)) = ((X / 256 ^ k : Nat) : Int) := by simp
  rw [h2] at this
  omega
theorem beV_beN (X : Nat) : ∀ k, beV (beN k (X : Int)) = X % 256 ^ k
  | 0 => by simp [beN, beV, Nat.mod_one]
  | k + 1 => by
    rw [beN, beV_cons, beN_len, byteAt_nat, beV_beN X k, Nat.mod_pow_succ]
    rw [Nat.mul_comm]
    omega
/-- Numbers that are alike but for a multiple of 2^64 have the same bytes. -/
theorem byteAt_wrap (v : Nat) (k : Nat) (hk : k ≤ 7) : byteAt (IntKind.i64.wrap (v : Int)) k = byteAt (v : Int) k := by
  apply UInt8.toNat.inj
  have h1 := byteAt_u64 (IntKind.i64.wrap (v : Int)) k hk
  have h2 := byteAt_u64 (v : Int) k hk
  have h3 : IntKind.u64.wrap (IntKind.i64.wrap (v : Int)) = IntKind.u64.wrap (v : Int) := by
    rw [IntKind.wrap_u64, IntKind.wrap_u64, IntKind.wrap_i64]
    omega
  rw [h3, h2] at h1
  omega
theorem beN_wrap (v : Nat) : ∀ k, k ≤ 8 → beN k (IntKind.i64.wrap (v : Int)) = beN k (v : Int)
  | 0, _ => rfl
  | k + 1, h => by rw [beN, beN, byteAt_wrap v k (by omega), beN_wrap v k (by omega)]
theorem beN_beV (l : List UInt8) : beN l.length (beV l : Int) = l := by
  refine beV_inj l.length _ _ (beN_len _ _) rfl ?_
  rw [beV_beN, Nat.mod_eq_of_lt (beV_lt4 l l.length rfl)]
theorem beN_numV (l : List UInt8) (h : l.length ≤ 8) : beN l.length (numV l) = l := by
  rw [numV, beN_wrap _ _ h, beN_beV]
theorem numV_beN (k : Nat) (X : Nat) (h : X < 256 ^ k) (h63 : X ≤ 9223372036854775807) : numV (beN k (X : Int)) = X := by
  rw [numV, beV_beN, Nat.mod_eq_of_lt h, IntKind.wrap_i64]
  omega

theorem rdO_append (l m : List UInt8) (n : Nat) (h : n = l.length) : rdO n (l ++ m) = some (l, m) := by
  subst h
  rw [rdO_le (by simp)]
  simp
/-- What is written is read as the same. -/
theorem parse_cmdB (c : C5) (h : errC c = 0) (hs : c.sq ≤ 9223372036854775807) : parseO (cmdB c) = some (c, []) := by
  obtain ⟨⟨h1, h2⟩, ⟨h3, h4, h5⟩, h6, h7⟩ := errC_zero h
  have n1 : numV (beN 1 c.cl) = c.cl := by
    obtain ⟨X, hX⟩ := Int.eq_ofNat_of_zero_le (show 0 ≤ c.cl by omega)
    rw [hX]
    exact numV_beN 1 X (by omega) (by omega)
  have n2 : numV (beN 8 c.sq) = c.sq := by
    obtain ⟨X, hX⟩ := Int.eq_ofNat_of_zero_le (show 0 ≤ c.sq by omega)
    rw [hX]
    exact numV_beN 8 X (by omega) (by omega)
  have n3 : numV (beN 1 c.kd) = c.kd := by
    obtain ⟨X, hX⟩ := Int.eq_ofNat_of_zero_le (show 0 ≤ c.kd by omega)
    rw [hX]
    exact numV_beN 1 X (by omega) (by omega)
  have n4 : beV (beN 2 (c.nm.size : Int)) = c.nm.size := by rw [beV_beN, Nat.mod_eq_of_lt (by omega)]
  have n5 : beV (beN 2 (c.tx.size : Int)) = c.tx.size := by rw [beV_beN, Nat.mod_eq_of_lt (by omega)]
  unfold parseO cmdB textB
  rw [rdO_append _ _ 1 (beN_len _ _).symm, Option.bind_some, rdO_append _ _ 8 (beN_len _ _).symm, Option.bind_some, rdO_append _ _ 1 (beN_len _ _).symm, Option.bind_some]
  simp only [List.append_assoc]
  rw [rdO_append _ _ 2 (beN_len _ _).symm, Option.bind_some]
  simp only []
  rw [n4, rdO_append _ _ _ (Lib.size_eq _), Option.bind_some, rdO_append _ _ 2 (beN_len _ _).symm, Option.bind_some]
  simp only []
  have := rdO_append c.tx.data.toList [] c.tx.size (Lib.size_eq _)
  rw [List.append_nil] at this
  rw [n5, this, n1, n2, n3]
  rfl
theorem pcmd_cmdB (c : C5) (h : errC c = 0) (hs : c.sq ≤ 9223372036854775807) : pcmd (cmdB c) = (c, 0) := by
  unfold pcmd
  rw [parse_cmdB c h hs]
  simp [h]
/-- What can be read is written as the same bytes. -/
theorem cmdB_pcmd (l : List UInt8) (h : (pcmd l).2 = 0) : errC (pcmd l).1 = 0 ∧ cmdB (pcmd l).1 = l := by
  unfold pcmd at h ⊢
  cases hp : parseO l with
  | none => rw [hp] at h; exact absurd h (by decide)
  | some x =>
    obtain ⟨c, r⟩ := x
    rw [hp] at h
    simp only [] at h ⊢
    by_cases hr : r = []
    · rw [if_pos hr] at h ⊢
      by_cases he : errC c = 0
      · rw [if_pos he]
        refine ⟨he, ?_⟩
        obtain ⟨x1, x2, x3, x4, x5, x6, x7, h1, h2, h3, h4, h5, h6, h7, rfl, rfl⟩ := parseO_some hp
        obtain ⟨l1, e1⟩ := rdO_some h1
        obtain ⟨l2, e2⟩ := rdO_some h2
        obtain ⟨l3, e3⟩ := rdO_some h3
        obtain ⟨l4, e4⟩ := rdO_some h4
        obtain ⟨l5, e5⟩ := rdO_some h5
        obtain ⟨l6, e6⟩ := rdO_some h6
        obtain ⟨l7, e7⟩ := rdO_some h7
        have sp : ∀ (n : Nat) (m : List UInt8) (x : List UInt8 × List UInt8), n ≤ m.length → x = (m.take n, m.drop n) → m = x.1 ++ x.2 ∧ x.1.length = n := fun n m x hn e => by
          subst e
          exact ⟨(List.take_append_drop n m).symm, by rw [List.length_take]; omega⟩
        obtain ⟨a1, b1⟩ := sp _ _ _ l1 e1
        obtain ⟨a2, b2⟩ := sp _ _ _ l2 e2
        obtain ⟨a3, b3⟩ := sp _ _ _ l3 e3
        obtain ⟨a4, b4⟩ := sp _ _ _ l4 e4
        obtain ⟨a5, b5⟩ := sp _ _ _ l5 e5
        obtain ⟨a6, b6⟩ := sp _ _ _ l6 e6
        obtain ⟨a7, b7⟩ := sp _ _ _ l7 e7
        have m1 : beN 1 (numV x1.1) = x1.1 := by rw [← b1]; exact beN_numV _ (by omega)
        have m2 : beN 8 (numV x2.1) = x2.1 := by rw [← b2]; exact beN_numV _ (by omega)
        have m3 : beN 1 (numV x3.1) = x3.1 := by rw [← b3]; exact beN_numV _ (by omega)
        have m4 : beN 2 (beV x4.1 : Int) = x4.1 := by rw [← b4]; exact beN_beV _
        have m6 : beN 2 (beV x6.1 : Int) = x6.1 := by rw [← b6]; exact beN_beV _
        have s5 : (⟨x5.1.toArray⟩ : ByteArray).size = beV x4.1 := by rw [Lib.size_eq]; exact b5
        have s7 : (⟨x7.1.toArray⟩ : ByteArray).size = beV x6.1 := by rw [Lib.size_eq]; exact b7
        unfold cmdB textB
        simp only [] at hr ⊢
        rw [m1, m2, m3, s5, s7, m4, m6]
        rw [a1, a2, a3, a4, a5, a6, a7, hr]
        simp [List.append_assoc]
      · rw [if_neg he] at h
        exact absurd h he
    · rw [if_neg hr] at h
      exact absurd h (by decide)
end Go.Proofs.YtkeljejddfpnmaaDoor
