/-
  chancelref9.Above: what it returns.
  chancelref9.In: what it returns.
-/
import Derived.Test.YtpenhajbihlnjaaGreatRpAB
import Derived.Deep.RegionWith
namespace Go.Proofs.YtpenhajbihlnjaaGreat
open Go.RowKit Go.Sort

set_option maxHeartbeats 4000000 in
set_option maxRecDepth 1000000 in
theorem r9above_any (es : List E4) (ps : List EntP) (lo : Option Addr) (c : Nat) (u : U2) (N : List U2) (w : World) (hl : es.length ≤ 1048576) (hr : RowG w lo 4 (es.map E4.cells)) (hA : AllEnt w (fun _ => True) es ps) (hN : ∀ x, ∀ v ∈ upS ps x, v ∈ N) (hN1 : N.length ≤ 100000) (hS : ∀ x, (upS ps x).length ≤ 100000) :
    Calls Tryz.prog 14 #[.slice lo es.length c, .agg #[.string u.t, .string u.i]] w fun x w' => Below w.heap.size w w' ∧ ∃ (v : Value) (l : List U2), x = .returned v ∧ l.Nodup ∧ (∀ x, x ∈ l ↔ ∃ f ∈ upS ps u, Way (upS ps) f x) ∧ w'.ownsRow 0 28 2 v l.length (l.map U2.cells).flatten := by
  have b1 := belowA w (.cells #[.string u.t, .string u.i] 28)
  have hU := alloc_heap w (.cells #[.string u.t, .string u.i] 28)
  have F1 := r8findS_any es ps lo c u _ hl (hr.below b1) (hA.below b1)
  have HF := hide (fun (y : U2) (wx : World) (hb : Below w.heap.size w wx) => r8findS_any es ps lo c y wx hl (hr.below hb) (hA.below hb))
  have HS1 := hide (hS u)
  have HSA := hide hS
  clear hr hA hS
  generalize hSe : upS ps = S at *
  clear hSe
  go_enter Tryz.func14, Tryz.ntmps14
  go_upto_region 1 with fail
  generalize w.alloc _ = w1 at *
  have u0 : w1.cell? ⟨w.heap.size, 0, none⟩ = some (.string u.t) := by rw [Lib.cell_of_heap hU]; rfl
  have u1 : w1.cell? ⟨w.heap.size, 1, none⟩ = some (.string u.i) := by rw [Lib.cell_of_heap hU]; rfl
  clear hU
  go_wp2_with fail
  refine F1.mono ?_
  clear F1
  rintro e9 w2 ⟨b2, et, ei, epo, eao, epc, eal, eac, ok, rfl, hpr⟩
  have b3 := belowA w2 (.cells #[.string et, .string ei, .slice epo (S u).length epc, .slice eao eal eac] 32)
  have h3 := alloc_heap w2 (.cells #[.string et, .string ei, .slice epo (S u).length epc, .slice eao eal eac] 32)
  have hpr3 := hpr.below b3
  have bw3 := b1.trans ((b2.trans (b3.mono b2.size)).mono b1.size)
  clear u0 u1 hpr
  go_upto_region 2 with fail
  generalize w2.alloc _ = w3 at *
  go_wp2_with fail
  have hlen := unhide HS1
  go_loopw [7, 8] (fun ov iv wr => ∃ (l : List U2) (i : Nat), iv = .int .i64 i ∧ i ≤ (S u).length ∧ Below w3.heap.size w3 wr ∧ AbS S u l ∧ (∀ x ∈ (S u).take i, x ∈ l) ∧ wr.ownsRow 0 28 2 ov l.length (l.map U2.cells).flatten) (fun _ iv _ => (S u).length - (intOf iv).toNat)
  case atStart => exact ⟨[], 0, by go_num, Nat.zero_le _, Below.refl _ _, ⟨List.nodup_nil, fun x hx => by cases hx⟩, fun x hx => by simp at hx, World.ownsRow_nil _ _ _ _⟩
  case round =>
    rename World => wr
    obtain ⟨l, i, rfl, hi, hbw, hst, htk, hown⟩ := hrel
    have k0 : (0 : Int) ≤ (i : Int) := by omega
    have h3r := kept_of_below hbw h3
    have p2 : wr.cell? ⟨w2.heap.size, 2, none⟩ = some (.slice epo (S u).length epc) := by rw [Lib.cell_of_heap h3r]; rfl
    by_cases hlt : i < (S u).length
    · have i1 : (i : Int) < ((S u).length : Int) := by omega
      have hiS : i < (S u).length := by omega
      obtain ⟨b, off, hpo, hb, hcx⟩ := rowG_at hpr3 hbw hiS
      rw [hpo] at p2
      have A : AtE2 wr b (off + i * 2) (S u)[i] := AtE2.of hcx
      have P := r9put_any l 0 _ (S u)[i] wr (Nat.zero_le _) (by have := hst.len hN; omega) hown
      unfold U2.val at P
      have HST := hide hst
      have HTK := hide htk
      have HX := hide (show ∃ f ∈ S u, Way S f (S u)[i] from ⟨_, List.getElem_mem hiS, .here _⟩)
      have HTN := hide (List.take_succ_eq_append_getElem hiS)
      obtain ⟨x, hx⟩ : ∃ x, x = (S u)[i] := ⟨_, rfl⟩
      rw [← hx] at A P HX HTN
      obtain ⟨a0, a1⟩ := A
      clear hx hcx hst htk hown h3r hpo
      go_wp2_with fail
      refine P.mono ?_
      clear P
      rintro e8 w7 ⟨b7, v', l', rfl, hp, hown'⟩
      have HP := hide hp
      have HO := hide hown'
      clear a0 a1 p2 hp hown'
      go_wp2_with fail
      go_roundw
      case rel =>
        refine ⟨l', i + 1, by go_num, by omega, hbw.trans (b7.mono hbw.size), (unhide HST).put (unhide HP) (unhide HX), fun y hy => ?_, unhide HO⟩
        rw [unhide HTN, List.mem_append] at hy
        rcases hy with hy | hy
        · exact ((unhide HP).mem y).2 (.inr (unhide HTK y hy))
        · exact ((unhide HP).mem y).2 (.inl (List.mem_singleton.1 hy))
      case measure =>
        simp only [intOf]
        omega
    · have i1 : ¬ (i : Int) < ((S u).length : Int) := by omega
      have HH0 := hide (show ∀ x ∈ S u, x ∈ l from fun x hx => htk x (by rw [List.take_of_length_le (by omega)]; exact hx))
      have HST := hide hst
      have HO := hide hown
      have bw4 := bw3.trans (hbw.mono bw3.size)
      have hlN := hst.len hN
      clear hst hown htk h3r
      go_wp2_with fail
      clear p2
      go_loopw [7, 9, 10, 11, 12, 13, 14] (fun ov nv _ _ _ _ _ wq => ∃ (l : List U2) (n : Int), nv = .int .i64 n ∧ -1 ≤ n ∧ n ≤ l.length ∧ Below wr.heap.size wr wq ∧ AbS S u l ∧ (∀ x ∈ S u, x ∈ l) ∧ (n = l.length → ∀ y ∈ l, ∀ x ∈ S y, x ∈ l) ∧ wq.ownsRow 0 28 2 ov l.length (l.map U2.cells).flatten) (fun _ nv _ _ _ _ _ _ => ((N.length : Int) - intOf nv).toNat)
      case atStart => exact ⟨l, -1, by go_num, by omega, by omega, Below.refl _ _, unhide HST, unhide HH0, fun h => absurd h (by omega), unhide HO⟩
      case round =>
        rename World => wq
        obtain ⟨l, n, rfl, hn0, hn1, hbq, hst, h0, hcl, hown⟩ := hrel
        have hlN := hst.len hN
        have HST := hide hst
        have HH0 := hide h0
        obtain ⟨do1, dc1, rfl, hdc1⟩ := ownE_slice hown
        have HO := hide hown
        have HCL := hide hcl
        clear hst h0 hown hcl
        by_cases hne : n = (l.length : Int)
        · have hD := hide ((unhide HST).done (unhide HH0) (unhide HCL hne))
          subst hne
          go_wp2
          go_ret
          exact ⟨bw4.trans (hbq.mono bw4.size), _, rfl, l, (unhide HST).nd, unhide hD, unhide HO⟩
        · have e1 : (n == (l.length : Int)) = false := by simpa using hne
          go_wp2_with fail
          go_loopw [7, 11, 12, 13, 14] (fun ov iv _ _ _ wp => ∃ (l' : List U2) (i : Nat), iv = .int .i64 i ∧ i ≤ l.length ∧ Below wq.heap.size wq wp ∧ AbG S u l l' ∧ (∀ y ∈ l.take i, ∀ x ∈ S y, x ∈ l') ∧ wp.ownsRow 0 28 2 ov l'.length (l'.map U2.cells).flatten) (fun _ iv _ _ _ _ => l.length - (intOf iv).toNat)
          case atStart => exact ⟨l, 0, by go_num, Nat.zero_le _, Below.refl _ _, AbG.start (unhide HST), fun y hy => by simp at hy, unhide HO⟩
          case round =>
            rename World => wp
            obtain ⟨l', i, rfl, hi, hbp, hg, htk, hown⟩ := hrel
            have k0 : (0 : Int) ≤ (i : Int) := by omega
            have HG := hide hg
            have HTK := hide htk
            have HO2 := hide hown
            clear hg htk hown
            by_cases hlt : i < l.length
            · have i1 : (i : Int) < (l.length : Int) := by omega
              obtain ⟨ao4, cap4, e4, hrow4, _, _⟩ := rowG_own (lenU l) (by simpa using own_below (unhide HO) hbp)
              simp only [List.length_map] at e4
              cases e4
              obtain ⟨b, off, rfl, hb, hcx⟩ := rowG_at hrow4 (Below.refl _ _) hlt
              have A : AtE2 wp b (off + i * 2) l[i] := AtE2.of hcx
              have bwp := bw4.trans ((hbq.trans (hbp.mono hbq.size)).mono bw4.size)
              have F := unhide HF l[i] wp bwp
              have HWY := hide (show ∀ x ∈ S l[i], ∃ f ∈ S u, Way S f x from fun x hx => by
                obtain ⟨f, hf, hw⟩ := (unhide HST).way l[i] (List.getElem_mem hlt)
                exact ⟨f, hf, .step hw hx⟩)
              have HTN := hide (List.take_succ_eq_append_getElem hlt)
              have HSY := hide (unhide HSA l[i])
              obtain ⟨y, hy⟩ : ∃ y, y = l[i] := ⟨_, rfl⟩
              rw [← hy] at A F HWY HTN HSY
              obtain ⟨a0, a1⟩ := A
              clear hy hcx hrow4
              go_wp2_with fail
              refine F.mono ?_
              clear F
              rintro e9 w5 ⟨b5, dt, di, dpo, dao, dpc, dal, dac, ok', rfl, hpr'⟩
              have b6 := belowA w5 (.cells #[.string dt, .string di, .slice dpo (S y).length dpc, .slice dao dal dac] 32)
              have h6 := alloc_heap w5 (.cells #[.string dt, .string di, .slice dpo (S y).length dpc, .slice dao dal dac] 32)
              have B6 := b5.trans (b6.mono b5.size)
              have hpr6 := hpr'.below b6
              clear a0 a1 hpr'
              go_upto_region 15 with fail
              generalize w5.alloc _ = w6 at *
              have hlen6 := unhide HSY
              have HG6 := hide (own_below (unhide HO2) B6)
              go_wp2_with fail
              go_loopw [7, 14] (fun ov kv wz => ∃ (l2 : List U2) (k : Nat), kv = .int .i64 k ∧ k ≤ (S y).length ∧ Below w6.heap.size w6 wz ∧ AbG S u l l2 ∧ (∀ y ∈ l.take i, ∀ x ∈ S y, x ∈ l2) ∧ (∀ x ∈ (S y).take k, x ∈ l2) ∧ wz.ownsRow 0 28 2 ov l2.length (l2.map U2.cells).flatten) (fun _ kv _ => (S y).length - (intOf kv).toNat)
              case atStart => exact ⟨l', 0, by go_num, Nat.zero_le _, Below.refl _ _, unhide HG, unhide HTK, fun x hx => by simp at hx, unhide HG6⟩
              case round =>
                rename World => wz
                obtain ⟨l2, k, rfl, hk, hbz, hg2, htk2, htk3, hown2⟩ := hrel
                have q0 : (0 : Int) ≤ (k : Int) := by omega
                have h6z := kept_of_below hbz h6
                have p2 : wz.cell? ⟨w5.heap.size, 2, none⟩ = some (.slice dpo (S y).length dpc) := by rw [Lib.cell_of_heap h6z]; rfl
                have HG2 := hide hg2
                have HT2 := hide htk2
                have HT3 := hide htk3
                have hl2N := hg2.st.len hN
                by_cases hlt2 : k < (S y).length
                · have q1 : (k : Int) < ((S y).length : Int) := by omega
                  have hkS : k < (S y).length := by omega
                  obtain ⟨b', off', hpo, hb', hcx⟩ := rowG_at hpr6 hbz hkS
                  rw [hpo] at p2
                  have A : AtE2 wz b' (off' + k * 2) (S y)[k] := AtE2.of hcx
                  have P := r9put_any l2 0 _ (S y)[k] wz (Nat.zero_le _) (by omega) hown2
                  unfold U2.val at P
                  have HX := hide (unhide HWY _ (List.getElem_mem hkS))
                  have HTN2 := hide (List.take_succ_eq_append_getElem hkS)
                  obtain ⟨x, hx⟩ : ∃ x, x = (S y)[k] := ⟨_, rfl⟩
                  rw [← hx] at A P HX HTN2
                  obtain ⟨a0, a1⟩ := A
                  clear hx hcx hg2 htk2 htk3 hown2 h6z hpo
                  go_wp2_with fail
                  refine P.mono ?_
                  clear P
                  rintro e8 w7 ⟨b7, v', l3, rfl, hp, hown'⟩
                  have HP := hide hp
                  have HO3 := hide hown'
                  clear a0 a1 p2 hp hown'
                  go_wp2_with fail
                  go_roundw
                  case rel =>
                    refine ⟨l3, k + 1, by go_num, by omega, hbz.trans (b7.mono hbz.size), (unhide HG2).put (unhide HP) (unhide HX), fun z hz x' hx' => ((unhide HP).mem x').2 (.inr (unhide HT2 z hz x' hx')), fun z hz => ?_, unhide HO3⟩
                    rw [unhide HTN2, List.mem_append] at hz
                    rcases hz with hz | hz
                    · exact ((unhide HP).mem z).2 (.inr (unhide HT3 z hz))
                    · exact ((unhide HP).mem z).2 (.inl (List.mem_singleton.1 hz))
                  case measure =>
                    simp only [intOf]
                    omega
                · have q1 : ¬ (k : Int) < ((S y).length : Int) := by omega
                  have HO3 := hide hown2
                  have HT4 := hide (show ∀ x ∈ S y, x ∈ l2 from fun x hx => htk3 x (by rw [List.take_of_length_le (by omega)]; exact hx))
                  have bz := hide (hbp.trans ((B6.trans (hbz.mono B6.size)).mono hbp.size))
                  clear hg2 htk2 htk3 hown2 h6z
                  go_wp2_with fail
                  go_roundw
                  case rel =>
                    refine ⟨l2, i + 1, by go_num, by omega, unhide bz, unhide HG2, fun z hz x' hx' => ?_, unhide HO3⟩
                    rw [unhide HTN, List.mem_append] at hz
                    rcases hz with hz | hz
                    · exact unhide HT2 z hz x' hx'
                    · rw [List.mem_singleton.1 hz] at hx'
                      exact unhide HT4 x' hx'
                  case measure =>
                    simp only [intOf]
                    omega
            · have i1 : ¬ (i : Int) < (l.length : Int) := by omega
              have HC2 := hide (show (l.length : Int) = (l'.length : Int) → ∀ y ∈ l', ∀ x ∈ S y, x ∈ l' from fun h y hy x hx => by
                have e2 := (unhide HG).eq (by omega)
                exact unhide HTK y (by rw [List.take_of_length_le (by omega), ← e2]; exact hy) x hx)
              have HLE := hide (unhide HG).le
              go_wp2_with fail
              go_roundw
              case rel => exact ⟨l', l.length, by go_num, by omega, by have := unhide HLE; omega, hbq.trans (hbp.mono hbq.size), (unhide HG).st, fun x hx => (unhide HG).sup x (unhide HH0 x hx), unhide HC2, unhide HO2⟩
              case measure =>
                simp only [intOf]
                omega
end Go.Proofs.YtpenhajbihlnjaaGreat

namespace Go.Proofs.YtpenhajbihlnjaaGreat
open Go.RowKit Go.Sort

theorem way_first {S : U2 → List U2} {u a : U2} (h : Way S u a) : u = a ∨ ∃ f ∈ S u, Way S f a := by
  induction h with
  | here => exact .inl rfl
  | @step v x _ hx ih =>
    rcases ih with rfl | ⟨f, hf, hw⟩
    · exact .inr ⟨_, hx, .here _⟩
    · exact .inr ⟨f, hf, .step hw hx⟩
theorem way_cons {S : U2 → List U2} {u f a : U2} (hf : f ∈ S u) (h : Way S f a) : Way S u a := by
  induction h with
  | here => exact .step (.here _) hf
  | step _ hx ih => exact .step ih hx
set_option maxHeartbeats 4000000 in
set_option maxRecDepth 1000000 in
theorem r9in_any (es : List E4) (ps : List EntP) (lo : Option Addr) (c : Nat) (u a : U2) (N : List U2) (w : World) (hl : es.length ≤ 1048576) (hr : RowG w lo 4 (es.map E4.cells)) (hA : AllEnt w (fun _ => True) es ps) (hN : ∀ x, ∀ v ∈ upS ps x, v ∈ N) (hN1 : N.length ≤ 100000) (hS : ∀ x, (upS ps x).length ≤ 100000) :
    Calls Tryz.prog 8 #[.slice lo es.length c, .agg #[.string u.t, .string u.i], .agg #[.string a.t, .string a.i]] w fun x w' => Below w.heap.size w w' ∧ ∃ z, x = .returned (.bool z) ∧ (z = true ↔ Way (upS ps) u a) := by
  obtain ⟨b2, z2, hU, hB⟩ := ev2F w (.cells #[.string u.t, .string u.i] 28) (.cells #[.string a.t, .string a.i] 28)
  have CA := fun (wx : World) (hb : Below w.heap.size w wx) => r9above_any es ps lo c u N wx hl (hr.below hb) (hA.below hb) hN hN1 hS
  have HL := hide (fun (l : List U2) (hn : l.Nodup) (hm : ∀ x, x ∈ l ↔ ∃ f ∈ upS ps u, Way (upS ps) f x) => (AbS.mk hn fun x hx => (hm x).1 hx).len hN)
  clear hr hA hN hS
  generalize hSe : upS ps = S at *
  clear hSe
  go_enter Tryz.func8, Tryz.ntmps8
  go_upto_region 1 with fail
  generalize (w.alloc _).alloc _ = w2 at *
  have u0 : w2.cell? ⟨w.heap.size, 0, none⟩ = some (.string u.t) := by rw [Lib.cell_of_heap hU]; rfl
  have u1 : w2.cell? ⟨w.heap.size, 1, none⟩ = some (.string u.i) := by rw [Lib.cell_of_heap hU]; rfl
  have a0 : w2.cell? ⟨w.heap.size + 1, 0, none⟩ = some (.string a.t) := by rw [Lib.cell_of_heap hB]; rfl
  have a1 : w2.cell? ⟨w.heap.size + 1, 1, none⟩ = some (.string a.i) := by rw [Lib.cell_of_heap hB]; rfl
  have NQ := binEqlUid u a
  by_cases heq : u = a
  · have HW := hide (show Way S u a from heq ▸ .here _)
    rw [decide_eq_true heq] at NQ
    clear heq CA
    have r0 := cell_regrown u0
    have r1 := cell_regrown u1
    have r2 := cell_regrown a0
    have r3 := cell_regrown a1
    refine wp_region_quiet_below (by kernel_rfl) (by kernel_rfl) ?_
    repeat (quiet_step (fail))
    refine wpQuiet_nil ?_
    intro _ hw'
    obtain ⟨⟨dq, osq⟩, hw''⟩ := hw'
    subst hw''
    have b7 := b2.trans ((below_regrown w2 dq osq).mono b2.size)
    generalize grow (redrawn w2 dq) osq = w7 at *
    clear r0 r1 r2 r3 NQ u0 u1 a0 a1
    go_wp2
    go_ret
    exact ⟨b7, true, rfl, fun _ => unhide HW, fun _ => rfl⟩
  · have HNE := hide heq
    rw [decide_eq_false heq] at NQ
    clear heq
    have hlt : w.heap.size + 1 < w2.heap.size := by omega
    go_region_with (first
      | (go_at_call 14
         refine (CA _ b2.drew).mono ?_
         rintro e8 w6 ⟨b6, v, l, rfl, hnd, hmem, hown⟩
         obtain ⟨ao4, cap4, rfl, hrow, _, _⟩ := rowG_own (lenU l) (by simpa using hown)
         have HM := hide hmem
         have hll := unhide HL l hnd hmem
         simp only [List.length_map]
         have c0 := (b6.cell (p := ⟨w.heap.size + 1, 0, none⟩) hlt).trans a0
         have c1 := (b6.cell (p := ⟨w.heap.size + 1, 1, none⟩) hlt).trans a1
         clear hmem hnd hown)
      | (go_at_call 13
         refine (r9has_any l ao4 cap4 a _ (by omega) hrow).mono ?_
         rintro e8 w8 ⟨rfl, b8⟩))
    all_goals
      have HI := hide (show decide (a ∈ l) = true ↔ Way S u a by
        rw [decide_eq_true_eq, unhide HM a]
        constructor
        · rintro ⟨f, hf, hw⟩
          exact way_cons hf hw
        · intro h
          rcases way_first h with e | h
          · exact absurd e (unhide HNE)
          · exact h)
      have B6 := b2.drew.trans (b6.mono b2.drew.size)
      have B8 := hide (B6.trans (b8.mono B6.size))
      clear B6
      go_wp2
      go_ret
      exact ⟨unhide B8, _, rfl, unhide HI⟩
end Go.Proofs.YtpenhajbihlnjaaGreat
