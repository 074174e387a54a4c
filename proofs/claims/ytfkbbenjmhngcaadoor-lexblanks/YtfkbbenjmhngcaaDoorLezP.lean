/-
  Plain: tokens with blanks and remarks between (no walk in it).
-/
import Derived.Test.YtfkbbenjmhngcaaDoorLeyB
import Derived.Test.YtfkbbenjmhngcaaDoorLexS
namespace Go.Proofs.YtfkbbenjmhngcaaDoor
open Go

def shiftT (a : Nat) (tl : List Tok) : List Tok := tl.map fun t => ⟨t.k, t.s, t.n, a + t.p⟩
def coreT (t : Tok) : Int × List UInt8 × Int := (t.k, t.s, t.n)
theorem shiftT_core (a : Nat) (tl : List Tok) : (shiftT a tl).map coreT = tl.map coreT := by
  rw [shiftT, List.map_map]
  rfl

/-- A piece that is tokens, whatever follows behind a blank. -/
structure Good (p : List UInt8) (tl : List Tok) : Prop where
  two : tl.length ≤ 2
  inc : tl.Pairwise fun x y => x.p < y.p
  lt : ∀ t ∈ tl, t.p < p.length
  step : ∀ (c : UInt8) (rest : List UInt8) (a : Nat) (acc : List Tok), c = 32 ∨ c = 10 → acc.length + 2 ≤ 200 → toksL (p ++ c :: rest) a acc = toksL (c :: rest) (a + p.length) (acc ++ shiftT a tl)
  ok : ∀ t, okL t = true → okL (p ++ t) = true

theorem end_nm {c : UInt8} (h : c = 32 ∨ c = 10) (rest : List UInt8) : nmB ((c :: rest).getD 0 0) = false ∧ dgB ((c :: rest).getD 0 0) = false := by
  rcases h with rfl | rfl
  · exact ⟨show nmB 32 = false by decide, show dgB 32 = false by decide⟩
  · exact ⟨show nmB 10 = false by decide, show dgB 10 = false by decide⟩

theorem good_one {p : List UInt8} {k : Int} {s : List UInt8} {n : Int} (hne : 0 < p.length) (hok : ∀ t, okL t = true → okL (p ++ t) = true)
    (h : ∀ (c : UInt8) (rest : List UInt8) (a : Nat) (acc : List Tok), c = 32 ∨ c = 10 → acc.length ≠ 200 → toksL (p ++ c :: rest) a acc = toksL (c :: rest) (a + p.length) (acc ++ [⟨k, s, n, a⟩])) : Good p [⟨k, s, n, 0⟩] :=
  ⟨by simp, by simp, by simpa using hne, fun c rest a acc hc ha => h c rest a acc hc (by omega), hok⟩

theorem good_name {p : List UInt8} (h0 : letB (p.getD 0 0) = true) (hs : ∀ b ∈ p, nmB b = true) (hl : 0 < p.length) (hl2 : p.length ≤ 12) : Good p [⟨1, p, 0, 0⟩] :=
  good_one hl (fun t ht => okL_low p t (fun b hb => nmB_low (hs b hb)) ht) (fun c rest a acc hc ha => toksL_name p (c :: rest) a acc h0 hs (by intro e; rw [e] at hl; simp at hl) hl2 (.inr (end_nm hc rest).1) ha)
theorem good_long {p : List UInt8} (hs : ∀ b ∈ p, dgB b = true) (hl : 0 < p.length) (he : pe p = 0) : Good p [⟨2, [], pv p, 0⟩] :=
  good_one hl (fun t ht => okL_low p t (fun b hb => dgB_low (hs b hb)) ht) (fun c rest a acc hc ha => toksL_long p (c :: rest) a acc hs (by intro e; rw [e] at hl; simp at hl) he (.inr (end_nm hc rest).2) ha)
theorem good_sign {p : List UInt8} (hl : 0 < p.length) (hs : ∀ b ∈ p, b.toNat < 128) (hg : ∀ (c : UInt8) (rest : List UInt8), c = 32 ∨ c = 10 → gapL (p ++ c :: rest) = 0)
    (ht : ∀ (c : UInt8) (rest : List UInt8), c = 32 ∨ c = 10 → tokL (p ++ c :: rest) = ⟨4, p, 0, p.length, 0⟩) : Good p [⟨4, p, 0, 0⟩] :=
  good_one hl (fun t ht => okL_low p t hs ht) (fun c rest a acc hc ha => by
    rw [toksL_tok a acc (by simp) (hg c rest hc) (by rw [ht c rest hc]) ha, ht c rest hc]
    show toksL ((p ++ c :: rest).drop p.length) _ _ = _
    rw [List.drop_left])
theorem good_9a : Good [57, 97] [⟨2, [], 9, 0⟩, ⟨1, [97], 0, 1⟩] := by
  refine ⟨by decide, by simp, by simp, fun c rest a acc hc ha => ?_, fun t ht => okL_low [57, 97] t (by decide) ht⟩
  have e1 := toksL_long [57] (97 :: c :: rest) a acc (by decide) (by simp) (by decide) (.inr (show dgB 97 = false by decide)) (by omega)
  have e2 := toksL_name [97] (c :: rest) (a + 1) (acc ++ [⟨2, [], pv [57], a⟩]) (by decide) (by decide) (by simp) (by decide) (.inr (end_nm hc rest).1) (by simp; omega)
  show toksL ([57] ++ 97 :: c :: rest) a acc = _
  rw [e1]
  show toksL ([97] ++ c :: rest) (a + 1) _ = _
  rw [e2, List.append_assoc]
  rfl
theorem good_quote (xs : List Int) (h : ofOk xs = true) (h30 : xs.length ≤ 30) : Good (quoteL (ofL xs)) [⟨3, ofL xs, 0, 0⟩] :=
  good_one (by simp [quoteL]) (fun t ht => okL_quote xs h t ht) (fun c rest a acc _ ha => toksL_str xs h h30 (c :: rest) a acc ha)

theorem quote_many (xs : List Int) (h : ofOk xs = true) (h30 : ¬ xs.length ≤ 30) : (toks (quoteL (ofL xs))).2 ≠ 0 := by
  unfold toks
  split
  · decide
  · have hok := okL_quote xs h [] rfl
    rw [List.append_nil] at hok
    rw [hok, if_pos rfl]
    have hr := rd_quote xs h []
    rw [List.append_nil] at hr
    have hq := quote_head (ofL xs) []
    rw [List.append_nil] at hq
    have hk : tokL (quoteL (ofL xs)) = badT 5 := by
      rw [tokL, show (quoteL (ofL xs)).getD 0 0 = 34 by rw [hq]; rfl, show letB 34 = false from by decide, if_neg (by simp), show dgB 34 = false from by decide, if_neg (by simp), if_pos (by decide), strT, hr, if_pos rfl, if_pos (by rw [runes_ofL xs h]; omega)]
    have hg : gapL (quoteL (ofL xs)) = 0 := by rw [hq]; exact gapL_none _ _ (by decide) (by decide)
    rw [toksL_err 0 [] (by rw [hq]; simp) hg (by rw [hk]; decide), hk]
    decide

theorem piece_good {p : List UInt8} (h : IsPiece p) (he : (toks p).2 = 0) : ∃ tl, Good p tl := by
  rcases h with h | ⟨zs, rfl⟩
  · simp only [pieceL, List.mem_cons, List.not_mem_nil, or_false] at h
    rcases h with rfl | rfl | rfl | rfl | rfl | rfl | rfl | rfl | rfl | rfl | rfl | rfl | rfl | rfl | rfl | rfl | rfl | rfl | rfl | rfl | rfl | rfl | rfl | rfl | rfl | rfl | rfl | rfl | rfl | rfl | rfl | rfl | rfl | rfl | rfl | rfl | rfl | rfl | rfl | rfl | rfl | rfl
    all_goals first
      | exact ⟨_, good_name (by decide) (by decide) (by decide) (by decide)⟩
      | exact ⟨_, good_long (by decide) (by decide) (by decide)⟩
      | exact ⟨_, good_9a⟩
      | exact absurd he (by decide)
      | exact ⟨_, good_sign (by decide) (by decide) (fun c rest hc => by rcases hc with rfl | rfl <;> rfl) (fun c rest hc => by rcases hc with rfl | rfl <;> rfl)⟩
  · by_cases h30 : (picks zs).length ≤ 30
    · exact ⟨_, good_quote (picks zs) (picks_ok zs) h30⟩
    · exact absurd he (quote_many (picks zs) (picks_ok zs) h30)

def gapsL : List (List UInt8) := [[], [32, 32], [47, 47, 32, 97, 32, 114, 101, 109, 97, 114, 107, 10], [9, 13, 10], [47, 47, 10, 47, 47, 10]]
theorem toksL_gapn {l l' : List UInt8} {n : Nat} (a : Nat) (acc : List Tok) (hg : gapL l = n) (hn : 0 < n) (hd : l.drop n = l') (hne : l ≠ []) : toksL l a acc = toksL l' (a + n) acc := by
  rw [toksL_gap a acc hne (by rw [hg]; exact hn), hg, hd]
theorem gaps_skip {g : List UInt8} (h : g ∈ gapsL) (rest : List UInt8) (a : Nat) (acc : List Tok) : toksL (10 :: (g ++ rest)) a acc = toksL rest (a + 1 + g.length) acc := by
  have n1 : ∀ (l : List UInt8) (a : Nat), toksL (10 :: l) a acc = toksL l (a + 1) acc := fun l a => toksL_gapn a acc rfl (by decide) rfl (by simp)
  have n2 : ∀ (l : List UInt8) (a : Nat), toksL (32 :: l) a acc = toksL l (a + 1) acc := fun l a => toksL_gapn a acc rfl (by decide) rfl (by simp)
  have n3 : ∀ (l : List UInt8) (a : Nat), toksL (9 :: l) a acc = toksL l (a + 1) acc := fun l a => toksL_gapn a acc rfl (by decide) rfl (by simp)
  have n4 : ∀ (l : List UInt8) (a : Nat), toksL (13 :: l) a acc = toksL l (a + 1) acc := fun l a => toksL_gapn a acc rfl (by decide) rfl (by simp)
  have n5 : ∀ (l : List UInt8) (a : Nat), toksL (47 :: 47 :: 10 :: l) a acc = toksL (10 :: l) (a + 2) acc := fun l a => toksL_gapn a acc rfl (by decide) rfl (by simp)
  have n6 : ∀ (l : List UInt8) (a : Nat), toksL (47 :: 47 :: 32 :: 97 :: 32 :: 114 :: 101 :: 109 :: 97 :: 114 :: 107 :: 10 :: l) a acc = toksL (10 :: l) (a + 11) acc := fun l a => toksL_gapn a acc rfl (by decide) rfl (by simp)
  simp only [gapsL, List.mem_cons, List.not_mem_nil, or_false] at h
  rcases h with rfl | rfl | rfl | rfl | rfl
  · rw [n1]
    rfl
  · rw [n1]
    show toksL (32 :: 32 :: rest) _ _ = _
    rw [n2, n2]
    rfl
  · rw [n1]
    show toksL (47 :: 47 :: 32 :: 97 :: 32 :: 114 :: 101 :: 109 :: 97 :: 114 :: 107 :: 10 :: rest) _ _ = _
    rw [n6, n1]
    rfl
  · rw [n1]
    show toksL (9 :: 13 :: 10 :: rest) _ _ = _
    rw [n3, n4, n1]
    rfl
  · rw [n1]
    show toksL (47 :: 47 :: 10 :: 47 :: 47 :: 10 :: rest) _ _ = _
    rw [n5, n1, n5, n1]
    rfl
theorem gaps_low : ∀ g ∈ gapsL, ∀ b ∈ g, b.toNat < 128 := by decide

/-- What both sources are taken to, so far. -/
def BInv (a b : List UInt8) (n : Nat) : Prop := ∃ X Y : List Tok, X.map coreT = Y.map coreT ∧ X.length ≤ 2 * n ∧ (Y.Pairwise fun x y => x.p < y.p) ∧ (∀ t ∈ Y, t.p < b.length) ∧
  (∀ rest, toksL (a ++ rest) 0 [] = toksL rest a.length X) ∧ (∀ rest, toksL (b ++ rest) 0 [] = toksL rest b.length Y) ∧ (∀ t, okL t = true → okL (a ++ t) = true) ∧ (∀ t, okL t = true → okL (b ++ t) = true)

theorem BInv.start : BInv [] [] 0 := ⟨[], [], rfl, by simp, by simp, by simp, fun _ => rfl, fun _ => rfl, fun _ h => h, fun _ h => h⟩

theorem BInv.next {a b : List UInt8} {n : Nat} (h : BInv a b n) (hn : n < 25) {p : List UInt8} {tl : List Tok} (hp : Good p tl) {g : List UInt8} (hg : g ∈ gapsL) : BInv (a ++ p ++ [32]) (b ++ p ++ [10] ++ g) (n + 1) := by
  obtain ⟨X, Y, h1, h2, h3, h4, h5, h6, h7, h8⟩ := h
  have hXY : X.length = Y.length := by have := congrArg List.length h1; simpa using this
  have h2' := hp.two
  have hcat : b ++ p ++ [10] ++ g = b ++ (p ++ 10 :: g) := by simp
  refine ⟨X ++ shiftT a.length tl, Y ++ shiftT b.length tl, ?_, ?_, ?_, ?_, ?_, ?_, ?_, ?_⟩
  · rw [List.map_append, List.map_append, h1, shiftT_core, shiftT_core]
  · rw [List.length_append, shiftT, List.length_map]
    omega
  · rw [List.pairwise_append]
    refine ⟨h3, ?_, ?_⟩
    · rw [shiftT, List.pairwise_map]
      exact hp.inc.imp (fun h => by simpa using h)
    · intro x hx y hy
      obtain ⟨t, _, rfl⟩ := List.mem_map.1 hy
      have := h4 x hx
      show x.p < b.length + t.p
      omega
  · intro t ht
    rw [hcat]
    rcases List.mem_append.1 ht with ht | ht
    · have := h4 t ht
      rw [List.length_append]
      omega
    · obtain ⟨u, hu, rfl⟩ := List.mem_map.1 ht
      have := hp.lt u hu
      show b.length + u.p < _
      rw [List.length_append, List.length_append]
      omega
  · intro rest
    have e : a ++ p ++ [32] ++ rest = a ++ (p ++ 32 :: rest) := by simp
    rw [e, h5, hp.step 32 rest _ X (.inl rfl) (by omega)]
    have n2 : ∀ (l : List UInt8) (a : Nat) (acc : List Tok), toksL (32 :: l) a acc = toksL l (a + 1) acc := fun l a acc => toksL_gapn a acc rfl (by decide) rfl (by simp)
    rw [n2]
    simp [Nat.add_assoc]
  · intro rest
    rw [hcat, show b ++ (p ++ 10 :: g) ++ rest = b ++ (p ++ 10 :: (g ++ rest)) by simp, h6, hp.step 10 (g ++ rest) _ Y (.inr rfl) (by omega), gaps_skip hg]
    congr 1
    simp
    omega
  · intro t ht
    rw [show a ++ p ++ [32] ++ t = a ++ (p ++ ([32] ++ t)) by simp]
    exact h7 _ (hp.ok _ (okL_low [32] t (by decide) ht))
  · intro t ht
    rw [hcat, show b ++ (p ++ 10 :: g) ++ t = b ++ (p ++ ([10] ++ (g ++ t))) by simp]
    exact h8 _ (hp.ok _ (okL_low [10] _ (by decide) (okL_low g t (gaps_low g hg) ht)))

theorem BInv.toks {a b : List UInt8} {n : Nat} (h : BInv a b n) (ha : a.length ≤ 600) (hb : b.length ≤ 600) (hn : n ≤ 25) :
    ∃ X Y : List Tok, toks a = (X, 0) ∧ toks b = (Y, 0) ∧ X.length = Y.length ∧ X.length ≤ 50 ∧ ∀ i (h1 : i < X.length) (h2 : i < Y.length), X[i].k = Y[i].k ∧ X[i].s = Y[i].s ∧ X[i].n = Y[i].n ∧ ∀ h3 : 0 < i, Y[i - 1].p < Y[i].p := by
  obtain ⟨X, Y, h1, h2, h3, h4, h5, h6, h7, h8⟩ := h
  have hXY : X.length = Y.length := by have := congrArg List.length h1; simpa using this
  refine ⟨X, Y, ?_, ?_, hXY, by omega, ?_⟩
  · have ok := h7 [] rfl
    have e := h5 []
    rw [List.append_nil] at ok e
    rw [Go.Proofs.YtfkbbenjmhngcaaDoor.toks, if_neg (by omega), ok, if_pos rfl, e]
    rfl
  · have ok := h8 [] rfl
    have e := h6 []
    rw [List.append_nil] at ok e
    rw [Go.Proofs.YtfkbbenjmhngcaaDoor.toks, if_neg (by omega), ok, if_pos rfl, e]
    rfl
  · intro i hx hy
    have e := congrArg (fun l => l[i]?) h1
    simp only [List.getElem?_map, List.getElem?_eq_getElem hx, List.getElem?_eq_getElem hy, Option.map_some, Option.some.injEq, coreT, Prod.mk.injEq] at e
    refine ⟨e.1, e.2.1, e.2.2, fun h0 => ?_⟩
    exact List.pairwise_iff_getElem.1 h3 (i - 1) i (by omega) hy (by omega)
end Go.Proofs.YtfkbbenjmhngcaaDoor
