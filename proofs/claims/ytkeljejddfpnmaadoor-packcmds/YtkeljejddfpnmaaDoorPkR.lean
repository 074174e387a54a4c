/-
  chancelref7's num and bytes (bytes laid behind others): what they return.
-/
import Derived.Test.YtkeljejddfpnmaaDoorPkL
import Derived.Maps.AppendAt
namespace Go.Proofs.YtkeljejddfpnmaaDoor
open Go.RowKit Go.Sort

/-- Old memory stays but for the row that is laid on; that lies where it lay, or in new memory. -/
structure Step (w w' : World) (v v' : Value) : Prop where
  grown : w.grownBy w' v.ownBlock
  place : v'.ownBlock = v.ownBlock ∨ ∃ b, v'.ownBlock = some b ∧ w.heap.size ≤ b
theorem Step.trans {w1 w2 w3 : World} {v1 v2 v3 : Value} (h : Step w1 w2 v1 v2) (k : Step w2 w3 v2 v3) : Step w1 w3 v1 v3 := by
  refine ⟨⟨k.grown.os.trans h.grown.os, k.grown.tape.trans h.grown.tape, k.grown.output.trans h.grown.output, Nat.le_trans h.grown.size k.grown.size, fun i hi hne => ?_⟩, ?_⟩
  · refine (k.grown.block i (Nat.lt_of_lt_of_le hi h.grown.size) ?_).trans (h.grown.block i hi hne)
    rcases h.place with e | ⟨b, e, hb⟩
    · rw [e]; exact hne
    · rw [e]
      intro he
      have := Option.some.inj he
      omega
  · rcases k.place with e | ⟨b, e, hb⟩
    · rw [e]; exact h.place
    · exact .inr ⟨b, e, Nat.le_trans h.grown.size hb⟩
theorem Step.of_below {w w' : World} (v : Value) (h : Below w.heap.size w w') : Step w w' v v := ⟨⟨h.os, h.tape, h.output, h.size, fun k hk _ => h.block k hk⟩, .inl rfl⟩
theorem Step.below {w0 w w' : World} {v v' : Value} {B : Nat} (h : Step w w' v v') (hb : Below B w0 w) (hv : ∀ b, v.ownBlock = some b → B ≤ b) (hB : B ≤ w.heap.size) : Below B w0 w' :=
  hb.trans ⟨h.grown.os, h.grown.tape, h.grown.output, h.grown.size, fun k hk => h.grown.block k (by omega) (fun e => by have := hv k e.symm; omega)⟩
theorem own_block {w : World} {B : Nat} {v : Value} {l : List UInt8} (h : Own w B v l) (b : Nat) (hb : v.ownBlock = some b) : B ≤ b ∧ b < w.heap.size := by
  rcases h.2 with ⟨h0, _⟩ | ⟨g, cap, cur, hv, hbg, hg, _⟩
  · rw [h0] at hb; cases hb
  · rw [hv] at hb
    cases hb
    exact ⟨hbg, (Array.getElem?_eq_some_iff.1 hg).1⟩
theorem own_step {w w' : World} {B : Nat} {v : Value} {l : List UInt8} (h : Own w B v l) (hb : Below w.heap.size w w') : Own w' B v l := owns_below hb h

theorem wpList_app2 {ops : Array Oper} {rest : List Oper} {o : Oper} {a : Act} {Q : Exit → Act → World → Prop} {w : World} {B : Nat} {v : Value} {A C : List UInt8} {ao : Option Addr} {m cap : Nat} (hgd : o.guard = none) (s x : Operand)
    (ho : o.op = .call { callee := .builtin .append, args := #[s, x], argTypes := #[24, 24] }) (hs : a.eval s = v) (hx : a.eval x = .slice ao m cap)
    (hown : Own w B v A) (hm : m = C.length) (hsh : Shape ao cap) (hr : BRow w ao C) (hl : A.length + C.length ≤ 140737488355328) (hB : B ≤ w.heap.size)
    (h : ∀ v' w', Own w' B v' (A ++ C) → Step w w' v v' → wpList Tryd.prog ops Q rest (a.put o.dst v') w') : wpList Tryd.prog ops Q (o :: rest) a w := by
  have key : ∃ v' w', (Builtin.append_ #[24, 24] o.type #[v, .slice ao m cap]).run Tryd.prog w = .ok v' w' ∧ Own w' B v' (A ++ C) ∧ Step w w' v v' := by
    have hi := infoBz
    cases hq : Tryd.prog.info? 5 with
    | none => rw [hq] at hi; cases hi
    | some i =>
      rw [hq] at hi
      simp only [Option.map_some, Option.some.injEq, Prod.mk.injEq] at hi
      obtain ⟨h1, h2, h3⟩ := hi
      rcases hsh with ⟨rfl, rfl⟩ | ⟨ad, rfl⟩
      · have hC : C = [] := by
          rcases hr with hr | ⟨_, _, e, _⟩
          · exact hr
          · cases e
        subst hC
        subst hm
        exact ⟨v, w, run_append_owned_none (P := Tryd.prog) (w := w) B 24 o.type 5 i 1 Tryd.underlying24 hq v _ _ hown, by simpa using hown, ⟨rfl, rfl, rfl, Nat.le_refl _, fun _ _ _ => rfl⟩, .inl rfl⟩
      · obtain ⟨v', w', a1, a2, a3, _, a5⟩ := run_append_own_at (P := Tryd.prog) w B 24 o.type 5 i (.int .u8 0) 1 1 Tryd.underlying24 hq h1 h2 h3 rfl (by decide) v A.length (u8s A) hown ad m cap (u8s C) (by rw [u8s_len, hm, Nat.mul_one])
          (fun j u hj => by
            have hjl : j < C.length := by rw [← u8s_len]; exact (List.getElem?_eq_some_iff.1 hj).1
            rw [u8s_get hjl] at hj
            cases hj
            obtain ⟨g', o', e, _, hc⟩ := hr.get hjl
            cases e
            rw [addr_add]
            exact hc) (fun u hu => by
            simp only [u8s, List.mem_map] at hu
            obtain ⟨b, _, rfl⟩ := hu
            rfl) (by unfold maxLen; omega) (by omega) hB
        refine ⟨v', w', a1, ?_, a3, a5.imp id fun e => ⟨_, e, Nat.le_refl _⟩⟩
        unfold Own
        rw [u8s_append, List.length_append, ← hm]
        exact a2
  obtain ⟨v', w', hrun, h1, h2⟩ := key
  refine wpList_plain hgd fun _ hK => ?_
  unfold Oper.wp execOp
  simp only [ho, resolve, invoke, builtin, Sem.run_bind, Sem.run_pure, Result.andThen_ok, List.map_toArray, List.map_cons, List.map_nil, hs, hx, hrun]
  exact hK _ _ (h v' w' h1 h2)

theorem byteAt_u64 (n : Int) (k : Nat) (hk : k ≤ 7) : IntKind.u8.wrap (IntKind.u64.wrap n / 2 ^ (8 * k)) = ((byteAt n k).toNat : Int) := by
  rw [byteAt_val, IntKind.wrap_u8', IntKind.wrap_u8', IntKind.wrap_u64]
  have hc : k = 0 ∨ k = 1 ∨ k = 2 ∨ k = 3 ∨ k = 4 ∨ k = 5 ∨ k = 6 ∨ k = 7 := by omega
  rcases hc with rfl | rfl | rfl | rfl | rfl | rfl | rfl | rfl <;> simp only [Nat.reduceMul, Int.reducePow] <;> omega

set_option maxHeartbeats 4000000 in
set_option maxRecDepth 1000000 in
theorem rnum_any (n : Int) (v : Value) (A : List UInt8) (B : Nat) (w : World) (h : Own w B v A) (hA : A.length ≤ 100000) (hB : B ≤ w.heap.size) :
    Calls Tryd.prog 24 #[v, .int .i64 n] w fun e w' => ∃ v', e = .returned v' ∧ Own w' B v' (A ++ beN 8 n) ∧ Step w w' v v' := by
  obtain ⟨U, hU⟩ : ∃ U : Int, IntKind.u64.wrap n = U := ⟨_, rfl⟩
  go_enter Tryd.func24, Tryd.ntmps24
  go_wp2_with fail
  go_loopw [0, 5] (fun bv lv wr => ∃ (j : Nat) (X : List UInt8), j ≤ 8 ∧ lv = .int .i64 ((j : Int) - 1) ∧ Own wr B bv X ∧ Step w wr v bv ∧ X ++ beN j n = A ++ beN 8 n ∧ X.length = A.length + (8 - j)) (fun _ lv _ => ((intOf lv) + 1).toNat)
  case atStart => exact ⟨8, A, Nat.le_refl _, by go_num, h, Step.of_below v (Below.refl _ w), rfl, by omega⟩
  case round =>
    obtain ⟨j, X, hj, rfl, hown, hst, hX, hXl⟩ := hrel
    have HX := hide hX
    clear hX
    cases j with
    | zero =>
      have i1 : ¬ (0 : Int) ≤ ((0 : Nat) : Int) - 1 := by omega
      go_wp2
      go_ret
      have := unhide HX
      rw [beN, List.append_nil] at this
      exact ⟨_, rfl, by rw [← this]; exact hown, hst⟩
    | succ j =>
      obtain ⟨lf, hlf⟩ : ∃ lf : Int, lf = ((j + 1 : Nat) : Int) - 1 := ⟨_, rfl⟩
      rw [← hlf]
      have hlj : lf = (j : Int) := by omega
      have i1 : (0 : Int) ≤ lf := by omega
      obtain ⟨q, hq⟩ : ∃ q : Int, q = 8 * lf := ⟨_, rfl⟩
      have hq1 : IntKind.i64.wrap (8 * lf) = q := by rw [IntKind.wrap_i64]; omega
      have hq0 : 0 ≤ q := by omega
      have hq64 : q ≤ 64 := by omega
      obtain ⟨x, hx⟩ : ∃ x : Int, U / 2 ^ q.toNat = x := ⟨_, rfl⟩
      obtain ⟨ci, hci⟩ : ∃ ci : Int, IntKind.u8.wrap x = ci := ⟨_, rfl⟩
      have hb : ci = ((byteAt n j).toNat : Int) := by rw [← byteAt_u64 n j (by omega), ← hci, ← hx, ← hU, show q.toNat = 8 * j by omega]
      have hrow : BRow (wr.alloc (.cells #[.int .u8 ci] 5)) (some ⟨wr.heap.size, 0, none⟩) [byteAt n j] := by
        refine .inr ⟨wr.heap.size, 0, rfl, by simp, fun i hi => ?_⟩
        obtain rfl : i = 0 := by simpa using hi
        simp [hb]
      have n1 := new1 wr (.cells #[.int .u8 ci] 5)
      have HO := hide (own_step hown n1)
      have HR := hide hrow
      have HL := hide hlj
      have hlw : IntKind.i64.wrap (lf - 1) = (j : Int) - 1 := by rw [IntKind.wrap_i64]; omega
      have hBw : B ≤ wr.heap.size := Nat.le_trans hB hst.grown.size
      have hB1 := Nat.le_trans hBw n1.size
      have hlen : X.length + [byteAt n j].length ≤ 140737488355328 := by simp; omega
      clear hlf hlj hb hq hrow
      go_wp2_with (at_builtin; refine wpList_app2 rfl _ _ rfl rfl rfl (A := X) (C := [byteAt n j]) (unhide HO) rfl (.inr ⟨_, rfl⟩) (unhide HR) hlen hB1 ?_)
      intro v1 w1 o1 s1
      have S1 := hst.trans ((Step.of_below _ n1).trans s1)
      go_wp2_with fail
      go_roundw
      case rel => exact ⟨j, X ++ [byteAt n j], by omega, rfl, o1, S1, by rw [← unhide HX, List.append_assoc]; rfl, by simp; omega⟩
      case measure => have := unhide HL; simp only [intOf]; omega
end Go.Proofs.YtkeljejddfpnmaaDoor
