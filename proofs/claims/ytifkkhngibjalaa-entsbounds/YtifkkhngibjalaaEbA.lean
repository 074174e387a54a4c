/-
  chancellaw8.letter; rows that are owned; what rows of letters are told.
-/
import Derived.Test.YtifkkhngibjalaaEkA
namespace Go.Proofs.Ytifkkhngibjalaa
open Go.RowKit Go.Sort

def letS (k : Nat) : ByteArray := ⟨#[UInt8.ofNat (97 + k)]⟩
set_option maxHeartbeats 1000000 in
set_option maxRecDepth 100000 in
theorem letter8_any (k : Nat) (hk : k < 100) (w : World) : Calls Try.prog 16 #[.int .i64 k] w fun e w' => e = .returned (.string (letS k)) ∧ Below w.heap.size w w' := by
  obtain ⟨c, hc⟩ : ∃ c, c = UInt8.ofNat (97 + k) := ⟨_, rfl⟩
  have hcn : (c.toNat : Int) = 97 + (k : Int) := by
    rw [hc, UInt8.toNat_ofNat']
    omega
  have e1 : letS k = ⟨#[c]⟩ := by rw [hc]; rfl
  rw [e1]
  have hcv : (convert 59 9 (.slice (some ⟨w.heap.size, 0, none⟩) 1 1)).run Try.prog (w.alloc (Obj.cells #[.int .u8 (97 + (k : Int))] 5)) = .ok (.string ⟨#[c]⟩) (w.alloc (Obj.cells #[.int .u8 (97 + (k : Int))] 5)) := by
    refine run_convert_bytes_back _ 59 9 5 ⟨w.heap.size, 0, none⟩ 1 [c] Try.underlying59 Try.underlying5 Try.underlying9 ?_
    intro j hj
    have hj0 : j = 0 := by simpa using hj
    subst hj0
    show _ = some (Value.int .u8 ((c.toNat : Nat) : Int))
    rw [hcn]
    simp [Addr.add]
  have hk97 : (97 : Int) + (k : Int) < 256 := by omega
  have b1 := below1 w (Obj.cells #[.int .u8 (97 + (k : Int))] 5)
  clear hc hcn e1
  go_enter Try.func16, Try.ntmps16
  go_wp2
  go_ret
  exact ⟨rfl, b1⟩

theorem rowG_own {w : World} {B n : Nat} {T : TypeId} {v : Value} {l : List (List Value)} (hn : ∀ c ∈ l, c.length = n) (h : w.ownsRow B T n v l.length l.flatten) : ∃ ao cap, v = .slice ao l.length cap ∧ RowG w ao n l ∧ l.length ≤ cap ∧ ∀ ad, ao = some ad → ad.off = 0 ∧ B ≤ ad.block := by
  rcases h.2 with ⟨hv, h0⟩ | ⟨g, cap, cur, hv, hB, hg, hcap, _, hcs, hxs⟩
  · exact ⟨none, 0, by rw [hv, h0], fun j hj => by omega, by omega, fun _ e => by cases e⟩
  · refine ⟨_, cap, hv, fun j hj => ⟨g, 0, rfl, (Array.getElem?_eq_some_iff.1 hg).1, fun c u hu => ?_⟩, hcap, fun ad e => by cases e; exact ⟨rfl, hB⟩⟩
    have hc : c < n := by
      have := (List.getElem?_eq_some_iff.1 hu).1
      rwa [hn _ (List.getElem_mem hj)] at this
    rw [Lib.cell_of_heap hg, Nat.zero_add]
    rw [← flat_get l hn j c hj hc, ← hxs, List.getElem?_take] at hu
    split at hu
    · simpa using hu
    · cases hu

/-! ## Rows in order, each of which may be. -/

section
variable {α : Type} {chk : α → Int} {less : α → α → Bool}
theorem rowGo_ok : ∀ (l : List α) (prev : Option α), (∀ e ∈ l, chk e = 0) → (∀ p, prev = some p → ∀ e ∈ l, less p e = true) → l.Pairwise (fun a b => less a b = true) → rowGo chk less prev l = 0
  | [], prev, _, _, _ => by cases prev <;> rfl
  | e :: t, prev, h1, h2, h3 => by
    have h3' := List.pairwise_cons.1 h3
    have hp : prevO less prev e = true := by
      cases prev with
      | none => rfl
      | some p => exact h2 p rfl e List.mem_cons_self
    rw [rowGo_cons, if_neg (fun h => h (h1 e List.mem_cons_self)), if_neg (by rw [hp]; decide)]
    exact rowGo_ok t (some e) (fun x hx => h1 x (List.mem_cons_of_mem _ hx)) (fun p hp x hx => by cases hp; exact h3'.1 x hx) h3'.2
theorem rowE_ok (most : Nat) (l : List α) (h1 : ∀ e ∈ l, chk e = 0) (h3 : l.Pairwise (fun a b => less a b = true)) : rowE chk less most l = if most < l.length then 4 else 0 := by
  unfold rowE
  rw [rowGo_ok l none h1 (fun _ h => by cases h) h3]
end

theorem rowE_one {α : Type} (chk : α → Int) (less : α → α → Bool) (n : Nat) (e : α) : rowE chk less (n + 1) [e] = chk e := by
  unfold rowE
  rw [if_neg (by simp), rowGo_cons]
  by_cases h : chk e = 0
  · rw [if_neg (fun hn => hn h), h]
    rfl
  · rw [if_pos h]

/-- Uids by letters. -/
def uL (k : Nat) : U2 := ⟨⟨#[84]⟩, letS k⟩
def uLs (n : Nat) : List U2 := (List.range n).map uL
theorem chk_uL : ∀ k, k < 20 → chk2 (uL k) = 0 := by decide
theorem less_uL : ∀ a, a < 20 → ∀ b, b < 20 → a < b → lessU (uL a) (uL b) = true := by decide
theorem uLs_pair (n : Nat) (hn : n ≤ 20) : (uLs n).Pairwise fun a b => lessU a b = true := by
  unfold uLs
  refine List.pairwise_map.2 (List.pairwise_iff_getElem.2 fun i j hi hj hij => ?_)
  simp only [List.getElem_range]
  simp only [List.length_range] at hi hj
  exact less_uL i (by omega) j (by omega) hij
theorem small_uL (k : Nat) : small2 (uL k) := ⟨by show 1 ≤ _; decide, by show 1 ≤ _; decide⟩
theorem uLs_succ (n : Nat) : uLs (n + 1) = uLs n ++ [uL n] := by simp [uLs, List.range_succ]
theorem uLs_len (n : Nat) : (uLs n).length = n := by simp [uLs]
/-- Entities by letters. -/
def eL (k : Nat) : E4 := ⟨⟨#[84]⟩, letS k, none, 0, 0, none, 0, 0⟩
def eLs (n : Nat) : List E4 := (List.range n).map eL
theorem eLs_succ (n : Nat) : eLs (n + 1) = eLs n ++ [eL n] := by simp [eLs, List.range_succ]
theorem eLs_len (n : Nat) : (eLs n).length = n := by simp [eLs]
theorem eLs_told (n : Nat) (hn : n ≤ 20) : rowE (fun _ => (0 : Int)) lessE 16 (eLs n) = if 16 < n then 4 else 0 := by
  rw [rowE_ok 16 (eLs n) (fun _ _ => rfl) ?_, eLs_len]
  have := uLs_pair n hn
  unfold uLs at this
  unfold eLs
  exact List.pairwise_map.2 (List.pairwise_map.1 this)
theorem eL_ok (w : World) (k : Nat) (hk : k < 20) : EntOk w (eL k) [] [] (fun _ => 0) ∧ chkE (e4u (eL k)) [] [] (fun _ => 0) = 0 := by
  have := entOk_bare (isEnt_bare w (fun _ => True) (uL k)) (small_uL k)
  exact ⟨this.1, this.2.trans (chk_uL k hk)⟩
/-- Parents by letters. -/
theorem uLs_told (n : Nat) (hn : n ≤ 20) : chkRowU (uLs n) = if 4 < n then 4 else 0 := by
  unfold chkRowU
  rw [rowE_ok 4 (uLs n) (fun u hu => ?_) (uLs_pair n hn), uLs_len]
  obtain ⟨k, hk, rfl⟩ := List.mem_map.1 hu
  exact chk_uL k (by have := List.mem_range.1 hk; omega)
/-- Attributes by letters. -/
def aL (k : Nat) : A8 := ⟨letS k, ofP (.bool false)⟩
def aLs (n : Nat) : List A8 := (List.range n).map aL
theorem aLs_succ (n : Nat) : aLs (n + 1) = aLs n ++ [aL n] := by simp [aLs, List.range_succ]
theorem aLs_len (n : Nat) : (aLs n).length = n := by simp [aLs]
theorem chk_aL : ∀ k, k < 20 → chkA (aL k).nm 0 = 0 := by decide
theorem less_let : ∀ a, a < 20 → ∀ b, b < 20 → a < b → decide ((letS a).data.toList < (letS b).data.toList) = true := by decide
theorem less_aL (a b : Nat) (ha : a < 20) (hb : b < 20) (h : a < b) : lessN (aL a) (aL b) = true := by
  have := less_let a ha b hb h
  unfold lessN aL
  rw [show (letS a).toList = (ba (letS a).data.toList).toList from rfl, show (letS b).toList = (ba (letS b).data.toList).toList from rfl, bytesLess_eq, ba_list, ba_list]
  exact this
theorem aLs_told (n : Nat) (hn : n ≤ 20) : chkRowA (fun _ => 0) (aLs n) = if 5 < n then 4 else 0 := by
  unfold chkRowA
  rw [rowE_ok 5 (aLs n) (fun u hu => ?_) ?_, aLs_len]
  · unfold aLs
    refine List.pairwise_map.2 (List.pairwise_iff_getElem.2 fun i j hi hj hij => ?_)
    simp only [List.getElem_range]
    simp only [List.length_range] at hi hj
    exact less_aL i j (by omega) (by omega) hij
  · obtain ⟨k, hk, rfl⟩ := List.mem_map.1 hu
    exact chk_aL k (by have := List.mem_range.1 hk; omega)
end Go.Proofs.Ytifkkhngibjalaa
