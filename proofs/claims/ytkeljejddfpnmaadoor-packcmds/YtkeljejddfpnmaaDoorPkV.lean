/-
  chancelref7.Cmd: what it returns.
-/
import Derived.Test.YtkeljejddfpnmaaDoorPkU
namespace Go.Proofs.YtkeljejddfpnmaaDoor
open Go.RowKit Go.Sort

/-- Behind the last stage its value is handed on; ahead of the first something holds. -/
structure TlR (e se s2 p0 p2 : Nat) (Pre : World → Prop) (L : Nat → Bool) (a' : Act) (w' : World) : Prop where
  val : L e = true → a'.tmps.getD se undef = a'.tmps.getD s2 undef
  o : L e = true → L p2 = true
  pre : L p0 = false → Pre w'
theorem TlR.put {e se s2 p0 p2 : Nat} {Pre : World → Prop} {L : Nat → Bool} {a' : Act} {w' w'' : World} (h : TlR e se s2 p0 p2 Pre L a' w') (i d : Nat) (v : Value) (hL : L i = false) (hi : i ≠ e) (hd : d ≠ se) (hs : d = s2 → i = p2) (hp : i ≠ p0 → L p0 = false → Pre w' → Pre w'') :
    TlR e se s2 p0 p2 Pre (fun j => decide (j = i) || L j) (a'.put (some d) v) w'' := by
  refine ⟨fun hl => ?_, fun hl => ?_, fun hl => ?_⟩
  · have hl : L e = true := by simpa [Ne.symm hi] using hl
    rw [put_other _ _ _ _ hd, put_other _ _ _ _ (fun e1 => by have := h.o hl; rw [← hs e1, hL] at this; cases this)]
    exact h.val hl
  · have hl : L e = true := by simpa [Ne.symm hi] using hl
    simp [h.o hl]
  · by_cases h0 : p0 = i
    · subst h0
      simp at hl
    · have hl : L p0 = false := by simpa [h0] using hl
      exact hp (Ne.symm h0) hl (h.pre hl)
theorem TlR.last {e se s2 p0 p2 : Nat} {Pre : World → Prop} {L : Nat → Bool} {a' : Act} {w' : World} (_h : TlR e se s2 p0 p2 Pre L a' w') (v : Value) (hv : v = a'.tmps.getD s2 undef) (hne : se ≠ s2) (hs : se < a'.tmps.size) (hp : L p2 = true) (h0 : L p0 = true) : TlR e se s2 p0 p2 Pre (fun j => decide (j = e) || L j) (a'.put (some se) v) w' :=
  ⟨fun _ => by rw [put_same _ _ _ hs, put_other _ _ _ _ hne]; exact hv, fun _ => by simp [hp], fun hl => by simp [h0] at hl⟩

theorem rCmd_bad (c : C5) (w : World) (he : errC c ≠ 0) :
    Calls Tryd.prog 8 #[c.val] w fun e w' => e = .returned (.tuple #[.slice none 0 0, .int .i64 (errC c)]) ∧ Below w.heap.size w w' := by
  have n1 := new1 w c.obj
  have z1 := alloc_heap w c.obj
  have C := fun w' => rwrong_any c w'
  unfold C5.val at C ⊢
  unfold C5.obj at n1 z1
  generalize errC c = E at *
  have hE : (E == 0) = false := beq_false_of_ne he
  clear he
  go_enter Tryd.func8, Tryd.ntmps8
  go_upto_region 1 with fail
  generalize w.alloc _ = w1 at *
  obtain ⟨c0, c1, c2, c3, c4, _⟩ := blk5 z1
  go_wp2_with fail
  refine (C w1).mono ?_
  rintro e w2 ⟨rfl, b2⟩
  have z2 := kept_of_below b2 z1
  clear c0 c1 c2 c3 c4
  obtain ⟨c0, c1, c2, c3, c4, _⟩ := blk5 z2
  go_wp2_with fail
  refine (C w2).mono ?_
  rintro e w3 ⟨rfl, b3⟩
  have b12 := n1.trans (b2.mono n1.size)
  go_wp2
  go_ret2
  exact ⟨rfl, b12.trans (b3.mono b12.size)⟩

def h3Sp (b : Nat) (c : C5) : Nat → Value → World → Prop
  | 0, v, _ => v = .pointer (some ⟨b, 0, none⟩)
  | 1, v, _ => v = .int .i64 c.cl
  | 2, v, _ => v = .int .u8 ((byteAt c.cl 0).toNat : Int)
  | 4, v, _ => v = .pointer (some ⟨b, 1, none⟩)
  | 5, v, _ => v = .int .i64 c.sq
  | 7, v, _ => v = .pointer (some ⟨b, 2, none⟩)
  | 8, v, _ => v = .int .i64 c.kd
  | 9, v, _ => v = .int .u8 ((byteAt c.kd 0).toNat : Int)
  | _, _, _ => True
def h4Sp (b : Nat) (c : C5) : Nat → Value → World → Prop
  | 1, v, _ => v = .pointer (some ⟨b, 3, none⟩)
  | 2, v, _ => v = .string c.nm
  | 5, v, _ => v = .pointer (some ⟨b, 4, none⟩)
  | 6, v, _ => v = .string c.tx
  | 10, v, _ => v = .int .i64 0
  | _, _, _ => True
theorem h3Sp_up {b : Nat} {c : C5} {w w' : World} (j : Nat) (u : Value) (h : h3Sp b c j u w) : h3Sp b c j u w' := by
  unfold h3Sp at h ⊢
  split at h <;> exact h
theorem h4Sp_up {b : Nat} {c : C5} {w w' : World} (j : Nat) (u : Value) (h : h4Sp b c j u w) : h4Sp b c j u w' := by
  unfold h4Sp at h ⊢
  split at h <;> exact h
theorem own_one (w : World) (b : UInt8) : Own (w.alloc (.cells #[.int .u8 (b.toNat : Int)] 5)) w.heap.size (.slice (some ⟨w.heap.size, 0, none⟩) 1 1) [b] := own_new w [b] (by simp)
theorem own_base {w : World} {B B' : Nat} {v : Value} {l : List UInt8} (h : Own w B v l) (hB : B' ≤ B) : Own w B' v l := owns_base h hB
theorem bytes_run2 (w : World) (s : ByteArray) : ∃ (cap : Nat) (w' : World), (convert 9 24 (.string s)).run Tryd.prog w = .ok (.slice (some ⟨w.heap.size, 0, none⟩) s.size cap) w' ∧ BRow w' (some ⟨w.heap.size, 0, none⟩) s.data.toList ∧ Below w.heap.size w w' ∧ w.heap.size < w'.heap.size := by
  have hrun := run_bytes_of_string (P := Tryd.prog) w 9 24 5 s Tryd.underlying9 Tryd.underlying24 Tryd.underlying5
  obtain ⟨cap, w', h1, _, h2, h3⟩ := bytes_run w s
  refine ⟨cap, w', h1, h2, h3, ?_⟩
  rw [hrun] at h1
  cases h1
  simp
/-- A slice as the walk sees it. -/
theorem own_slice {w : World} {B : Nat} {v : Value} {l : List UInt8} (h : Own w B v l) : ∃ ao n cap, v = .slice ao n cap := by
  obtain ⟨ao, cap, e, _⟩ := h.open
  exact ⟨ao, _, cap, e⟩

/-- An append at a slot, as one step. -/
theorem wp_app2 {o : Oper} {a : Act} {K : Act → World → Prop} {Q : Exit → Act → World → Prop} {w : World} {B : Nat} {v : Value} {A C : List UInt8} {ao : Option Addr} {m cap : Nat} (s x : Operand)
    (ho : o.op = .call { callee := .builtin .append, args := #[s, x], argTypes := #[24, 24] }) (hs : a.eval s = v) (hx : a.eval x = .slice ao m cap)
    (hown : Own w B v A) (hm : m = C.length) (hsh : Shape ao cap) (hr : BRow w ao C) (hl : A.length + C.length ≤ 140737488355328) (hB : B ≤ w.heap.size)
    (h : ∀ v' w', Own w' B v' (A ++ C) → Step w w' v v' → K (a.put o.dst v') w') : o.wp Tryd.prog a w K Q := by
  have hi := infoBz
  cases hq : Tryd.prog.info? 5 with
  | none => rw [hq] at hi; cases hi
  | some i =>
    rw [hq] at hi
    simp only [Option.map_some, Option.some.injEq, Prod.mk.injEq] at hi
    obtain ⟨h1, h2, h3⟩ := hi
    have key : ∃ v' w', (Builtin.append_ #[24, 24] o.type #[v, .slice ao m cap]).run Tryd.prog w = .ok v' w' ∧ Own w' B v' (A ++ C) ∧ Step w w' v v' := by
      rcases hsh with ⟨rfl, rfl⟩ | ⟨ad, rfl⟩
      · have hC : C = [] := by
          rcases hr with hr | ⟨_, _, e, _⟩
          · exact hr
          · cases e
        subst hC
        subst hm
        exact ⟨v, w, run_append_owned_none (P := Tryd.prog) (w := w) B 24 o.type 5 i 1 Tryd.underlying24 hq v _ _ hown, by simpa using hown, ⟨rfl, rfl, rfl, Nat.le_refl _, fun _ _ _ => rfl⟩, .inl rfl⟩
      · obtain ⟨v', w', a1, a2, a3, _, a5⟩ := run_append_own_at (P := Tryd.prog) w B 24 o.type 5 i (.int .u8 0) 1 1 Tryd.underlying24 hq h1 h2 h3 rfl (by decide) v A.length (u8s A) hown ad m cap (u8s C) (by rw [u8s_len, hm, Nat.mul_one])
          (fun j u hj => by
            have hjl : j < C.length := by rw [← u8s_len]; exact (List.getElem?_eq_some_iff.1 hj).1
            rw [u8s_get hjl] at hj
            cases hj
            obtain ⟨g', o', e, _, hc⟩ := hr.get hjl
            cases e
            rw [addr_add]
            exact hc) (fun u hu => by
            simp only [u8s, List.mem_map] at hu
            obtain ⟨b, _, rfl⟩ := hu
            rfl) (by unfold maxLen; omega) (by omega) hB
        refine ⟨v', w', a1, ?_, a3, a5.imp id fun e => ⟨_, e, Nat.le_refl _⟩⟩
        unfold Own
        rw [u8s_append, List.length_append, ← hm]
        exact a2
    obtain ⟨v', w', hrun, h1, h2⟩ := key
    unfold Oper.wp execOp
    simp only [ho, resolve, invoke, builtin, Sem.run_bind, Sem.run_pure, Result.andThen_ok, List.map_toArray, List.map_cons, List.map_nil, hs, hx, hrun]
    exact h v' w' h1 h2
end Go.Proofs.YtkeljejddfpnmaaDoor
