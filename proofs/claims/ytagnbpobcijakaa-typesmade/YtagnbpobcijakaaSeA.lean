/-
 chancellaw5.Schema: kinds and actions by numbers, in memory, and the schema that they say; rows by the types of their blocks (no walk in it).
-/
import Derived.Test.YtagnbpobcijakaaSbAll
namespace Go.Proofs.Ytagnbpobcijakaa
open Go.RowKit Go.Sort

/-! ## The texts. -/

def kn4s : List ByteArray := [⟨#[85, 115, 101, 114]⟩, ⟨#[71, 114, 111, 117, 112]⟩, ⟨#[68, 111, 99]⟩, ⟨#[84, 101, 97, 109]⟩]
def nm7s : List ByteArray := [⟨#[97]⟩, ⟨#[97, 103, 101]⟩, ⟨#[105, 102]⟩, ⟨#[99, 111, 110, 116, 97, 105, 110, 115]⟩, ⟨#[112, 114, 105, 110, 99, 105, 112, 97, 108]⟩, ⟨#[95, 120]⟩, ⟨#[110, 97, 109, 101]⟩]
def ac3s : List ByteArray := [⟨#[114, 101, 97, 100]⟩, ⟨#[119, 114, 105, 116, 101]⟩, ⟨#[111, 119, 110]⟩]
def knS (n : Int) : ByteArray := kn4s.getD (n % 4).toNat ⟨#[]⟩
def nmS (n : Int) : ByteArray := nm7s.getD (n % 7).toNat ⟨#[]⟩
def acS (n : Int) : ByteArray := ac3s.getD (n % 3).toNat ⟨#[]⟩
def knCs : Array Value := #[.string ⟨#[85, 115, 101, 114]⟩, .string ⟨#[71, 114, 111, 117, 112]⟩, .string ⟨#[68, 111, 99]⟩, .string ⟨#[84, 101, 97, 109]⟩]
def nmCs : Array Value := #[.string ⟨#[97]⟩, .string ⟨#[97, 103, 101]⟩, .string ⟨#[105, 102]⟩, .string ⟨#[99, 111, 110, 116, 97, 105, 110, 115]⟩, .string ⟨#[112, 114, 105, 110, 99, 105, 112, 97, 108]⟩, .string ⟨#[95, 120]⟩, .string ⟨#[110, 97, 109, 101]⟩]
theorem kn_cells (m : Nat) (hm : m < 4) : knCs[m]? = some (.string (kn4s.getD m ⟨#[]⟩)) := by
 match m, hm with
 | 0, _ | 1, _ | 2, _ | 3, _ => rfl
theorem nm_cells (m : Nat) (hm : m < 7) : nmCs[m]? = some (.string (nm7s.getD m ⟨#[]⟩)) := by
 match m, hm with
 | 0, _ | 1, _ | 2, _ | 3, _ | 4, _ | 5, _ | 6, _ => rfl
set_option maxHeartbeats 1000000 in
set_option maxRecDepth 1000000 in
theorem kindS_any (n : Int) (w : World) : Calls Try.prog 39 #[.int .i64 n] w fun e w' => e = .returned (.string (knS n)) ∧ Below w.heap.size w w' := by
 obtain ⟨m, hm⟩ : ∃ m : Nat, (m : Int) = n % 4 := ⟨(n % 4).toNat, by omega⟩
 have hm7 : m < 4 := by omega
 have W := fun w' => within5_any n 4 (by decide) (by decide) w'
 rw [← hm] at W
 have e : knS n = kn4s.getD m ⟨#[]⟩ := by unfold knS; rw [← hm]; rfl
 rw [e]
 have n1 := blw1 w (.cells knCs 9)
 have Z1 : (w.alloc (.cells knCs 9)).heap[w.heap.size]? = some (.cells knCs 9 (0, 0)) := alloc_heap _ _
 have hx : (w.alloc (.cells knCs 9)).cell? ⟨w.heap.size, m, none⟩ = some (.string (kn4s.getD m ⟨#[]⟩)) := by rw [Lib.cell_of_heap Z1]; exact kn_cells m hm7
 have i1 : (m : Int) < 4 := by omega
 generalize kn4s.getD m ⟨#[]⟩ = X at *
 clear hm e Z1
 unfold knCs at *
 go_enter Try.func39, Try.ntmps39
 go_wp2_with fail
 generalize w.alloc _ = w1 at *
 refine (W _).mono ?_
 rintro e w2 ⟨rfl, rfl⟩
 go_wp2
 go_ret
 exact ⟨rfl, n1⟩
set_option maxHeartbeats 1000000 in
set_option maxRecDepth 1000000 in
theorem nameS_any (n : Int) (w : World) : Calls Try.prog 28 #[.int .i64 n] w fun e w' => e = .returned (.string (nmS n)) ∧ Below w.heap.size w w' := by
 obtain ⟨m, hm⟩ : ∃ m : Nat, (m : Int) = n % 7 := ⟨(n % 7).toNat, by omega⟩
 have hm7 : m < 7 := by omega
 have W := fun w' => within5_any n 7 (by decide) (by decide) w'
 rw [← hm] at W
 have e : nmS n = nm7s.getD m ⟨#[]⟩ := by unfold nmS; rw [← hm]; rfl
 rw [e]
 have n1 := blw1 w (.cells nmCs 9)
 have Z1 : (w.alloc (.cells nmCs 9)).heap[w.heap.size]? = some (.cells nmCs 9 (0, 0)) := alloc_heap _ _
 have hx : (w.alloc (.cells nmCs 9)).cell? ⟨w.heap.size, m, none⟩ = some (.string (nm7s.getD m ⟨#[]⟩)) := by rw [Lib.cell_of_heap Z1]; exact nm_cells m hm7
 have i1 : (m : Int) < 7 := by omega
 generalize nm7s.getD m ⟨#[]⟩ = X at *
 clear hm e Z1
 unfold nmCs at *
 go_enter Try.func28, Try.ntmps28
 go_wp2_with fail
 generalize w.alloc _ = w1 at *
 refine (W _).mono ?_
 rintro e w2 ⟨rfl, rfl⟩
 go_wp2
 go_ret
 exact ⟨rfl, n1⟩

/-! ## What is handed in. -/

structure LF where
 nm : Int
 k : Int
 o : Int
 to : Int
def LF.cells (f : LF) : List Value := [.int .i64 f.nm, .int .i64 f.k, .int .i64 f.o, .int .i64 f.to]
def intC (n : Int) : List Value := [.int .i64 n]
structure LK where
 nm : Int
 ps : List Int
 fs : List LF
structure LA where
 nm : Int
 p : List Int
 r : List Int
/-- A number and two slices. -/
structure L3 where
 nm : Int
 ao : Option Addr
 al : Nat
 ac : Nat
 bo : Option Addr
 bl : Nat
 bc : Nat
def L3.cells (x : L3) : List Value := [.int .i64 x.nm, .slice x.ao x.al x.ac, .slice x.bo x.bl x.bc]
structure IsLK (w : World) (x : L3) (k : LK) : Prop where
 nm : x.nm = k.nm
 al : x.al = k.ps.length
 a : RowG w x.ao 1 (k.ps.map intC)
 bl : x.bl = k.fs.length
 b : RowG w x.bo 4 (k.fs.map LF.cells)
structure IsLA (w : World) (x : L3) (k : LA) : Prop where
 nm : x.nm = k.nm
 al : x.al = k.p.length
 a : RowG w x.ao 1 (k.p.map intC)
 bl : x.bl = k.r.length
 b : RowG w x.bo 1 (k.r.map intC)
def IsLKs (w : World) (ao : Option Addr) (ks : List LK) : Prop := ∃ xs : List L3, xs.length = ks.length ∧ RowG w ao 3 (xs.map L3.cells) ∧ ∀ j (h : j < xs.length) (h' : j < ks.length), IsLK w xs[j] ks[j]
def IsLAs (w : World) (ao : Option Addr) (ks : List LA) : Prop := ∃ xs : List L3, xs.length = ks.length ∧ RowG w ao 3 (xs.map L3.cells) ∧ ∀ j (h : j < xs.length) (h' : j < ks.length), IsLA w xs[j] ks[j]

/-! ## The schema that they say. -/

def ofLF (f : LF) : Int := if 1 + f.k % 5 = 5 then 1 + f.o % 4 else 0
def fieldS (f : LF) : F4 := ⟨nmS f.nm, 1 + f.k % 5, ofLF f, if 1 + f.k % 5 = 4 ∨ ofLF f = 4 then knS f.to else ⟨#[]⟩⟩
def kindS (k : LK) : KP := ⟨knS k.nm, (k.ps.take 3).map knS, (k.fs.take 4).map fieldS⟩
def actS (a : LA) : AP := ⟨acS a.nm, ⟨#[85, 115, 101, 114]⟩ :: (a.p.take 3).map knS, ⟨#[68, 111, 99]⟩ :: (a.r.take 3).map knS⟩
def schemaS (ks : List LK) (as_ : List LA) : SP := ⟨(ks.take 5).map kindS, (as_.take 5).map actS⟩

/-! ## Rows by the types of their blocks. -/

def TyRow {α : Type} (w : World) (T : TypeId) (ao : Option Addr) (l : List α) : Prop := ∀ ad, ao = some ad → l ≠ [] → ∃ cur fz, w.heap[ad.block]? = some (.cells cur T fz)
theorem RowG.turn {w w' : World} {ao : Option Addr} {n : Nat} {l : List (List Value)} (h : RowG w ao n l) (hs : w.heap.size ≤ w'.heap.size) (hk : ∀ ad, ao = some ad → l ≠ [] → w'.heap[ad.block]? = w.heap[ad.block]?) : RowG w' ao n l := by
 intro j hj
 obtain ⟨b, off, e, hb, hc⟩ := h j hj
 refine ⟨b, off, e, by omega, fun c v hv => ?_⟩
 have hh : w'.heap[b]? = w.heap[b]? := hk _ e (fun e => by rw [e] at hj; exact absurd hj (Nat.not_lt_zero _))
 have h1 := hc c v hv
 have : ∀ q : Nat, w'.cell? ⟨b, q, none⟩ = w.cell? ⟨b, q, none⟩ := fun q => by
  unfold World.cell?
  simp only [hh]
 rw [this]
 exact h1
/-- Blocks of texts and of fields stay. -/
def KeepSF (w w' : World) : Prop := w.heap.size ≤ w'.heap.size ∧ ∀ (b : Nat) cur T fz, (T = 9 ∨ T = 109) → w.heap[b]? = some (Obj.cells cur T fz) → w'.heap[b]? = some (Obj.cells cur T fz)
theorem KeepSF.of_below {w w' : World} (hb : Below w.heap.size w w') : KeepSF w w' := ⟨hb.size, fun _ _ _ _ _ h => kept_of_below hb h⟩
theorem KeepSF.trans {w w' w'' : World} (h : KeepSF w w') (h' : KeepSF w' w'') : KeepSF w w'' := ⟨Nat.le_trans h.1 h'.1, fun b c T f hT hb => h'.2 b c T f hT (h.2 b c T f hT hb)⟩
structure IsKT (w : World) (x : N3) (k : KP) : Prop where
 is : IsK w x k
 ta : TyRow w 9 x.ao k.ps
 tb : TyRow w 109 x.bo k.fs
structure IsAT (w : World) (x : N3) (k : AP) : Prop where
 is : IsA w x k
 ta : TyRow w 9 x.ao k.pr
 tb : TyRow w 9 x.bo k.re
theorem TyRow.turn {α : Type} {w w' : World} {T : TypeId} {ao : Option Addr} {l : List α} (h : TyRow w T ao l) (hT : T = 9 ∨ T = 109) (hk : KeepSF w w') : TyRow w' T ao l := fun ad e hl => by
 obtain ⟨cur, fz, hh⟩ := h ad e hl
 exact ⟨cur, fz, hk.2 _ _ _ _ hT hh⟩
theorem row_turn {α : Type} {f : α → List Value} {w w' : World} {T : TypeId} {ao : Option Addr} {n : Nat} {l : List α} (h : RowG w ao n (l.map f)) (ht : TyRow w T ao l) (hT : T = 9 ∨ T = 109) (hk : KeepSF w w') : RowG w' ao n (l.map f) :=
 h.turn hk.1 fun ad e hl => by
  obtain ⟨cur, fz, hh⟩ := ht ad e (fun e => hl (by rw [e]; rfl))
  rw [hh]
  exact hk.2 _ _ _ _ hT hh
theorem IsKT.turn {w w' : World} {x : N3} {k : KP} (h : IsKT w x k) (hk : KeepSF w w') : IsKT w' x k :=
 ⟨⟨h.is.nm, h.is.al, row_turn h.is.a h.ta (.inl rfl) hk, h.is.bl, row_turn h.is.b h.tb (.inr rfl) hk⟩, h.ta.turn (.inl rfl) hk, h.tb.turn (.inr rfl) hk⟩
theorem IsAT.turn {w w' : World} {x : N3} {k : AP} (h : IsAT w x k) (hk : KeepSF w w') : IsAT w' x k :=
 ⟨⟨h.is.nm, h.is.al, row_turn h.is.a h.ta (.inl rfl) hk, h.is.bl, row_turn h.is.b h.tb (.inl rfl) hk⟩, h.ta.turn (.inl rfl) hk, h.tb.turn (.inl rfl) hk⟩
/-- A row that is owned lies in a block of its type. -/
theorem own_row {α : Type} {w : World} {B n : Nat} {T : TypeId} {v : Value} {l : List α} {f : α → List Value} (hn : ∀ x, (f x).length = n) (h : w.ownsRow B T n v l.length (l.map f).flatten) : ∃ ao cap, v = .slice ao l.length cap ∧ RowG w ao n (l.map f) ∧ TyRow w T ao l ∧ ∀ ad, ao = some ad → B ≤ ad.block := by
 have h' : w.ownsRow B T n v (l.map f).length (l.map f).flatten := by rw [List.length_map]; exact h
 obtain ⟨ao, cap, hv, hr, _⟩ := rowG_ownS (fun c hc => by obtain ⟨x, _, rfl⟩ := List.mem_map.1 hc; exact hn x) h'
 rw [List.length_map] at hv
 have hty : ∀ ad, ao = some ad → (∃ cur fz, w.heap[ad.block]? = some (.cells cur T fz)) ∧ B ≤ ad.block := fun ad e => by
  rcases h.2 with ⟨h0, _⟩ | ⟨g, c, cur, hv', hB, hg, _⟩
  ·rw [hv] at h0
   injection h0 with e1
   rw [e] at e1
   cases e1
  ·rw [hv] at hv'
   injection hv' with e1
   rw [e] at e1
   cases e1
   exact ⟨⟨_, _, hg⟩, hB⟩
 exact ⟨ao, cap, hv, hr, fun ad e _ => (hty ad e).1, fun ad e => (hty ad e).2⟩
end Go.Proofs.Ytagnbpobcijakaa
