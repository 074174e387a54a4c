/-
  chancellaw10.SchemaTypes: all its leaves.
-/
import Derived.Test.YtckjafmnaffggaaStT0
import Derived.Test.YtckjafmnaffggaaStT1
import Derived.Test.YtckjafmnaffggaaStT2
import Derived.Test.YtckjafmnaffggaaStT3
import Derived.Test.YtckjafmnaffggaaStT4
import Derived.Test.YtckjafmnaffggaaStT5
namespace Go.Proofs.Ytckjafmnaffggaa
open Go.RowKit Go.Sort

theorem types_walk (k0 o0 n0 : Int) (c : Bool) (w : World) :
    Calls Try.prog 5 #[.int .i64 k0, .int .i64 o0, .int .i64 n0, .bool c] w fun e w' => e = .returned (.bool true) ∧ Below w.heap.size w w' := by
  obtain ⟨m, hm⟩ : ∃ m : Nat, (m : Int) = n0 % 4 := ⟨(n0 % 4).toNat, by omega⟩
  obtain ⟨k, hk⟩ : ∃ k, wrap64 (k0 % 8 - 1) = k := ⟨_, rfl⟩
  obtain ⟨o, ho⟩ : ∃ k, wrap64 (o0 % 7 - 1) = k := ⟨_, rfl⟩
  obtain ⟨tn, ht⟩ : ∃ tn, tn4.getD m ⟨#[]⟩ = tn := ⟨_, rfl⟩
  by_cases ka : k < 1
  · cases c
    · exact types_axxf k0 o0 n0 k o m tn w hk ho hm ht ka
    · exact types_axxt k0 o0 n0 k o m tn w hk ho hm ht ka
  by_cases kb : 5 < k
  · cases c
    · exact types_bxxf k0 o0 n0 k o m tn w hk ho hm ht ka kb
    · exact types_bxxt k0 o0 n0 k o m tn w hk ho hm ht ka kb
  by_cases kc : k ≤ 3
  · cases c
    · by_cases o0' : o = 0
      · by_cases te : tn = ⟨#[]⟩
        · exact types_c0Ef k0 o0 n0 k o m tn w hk ho hm ht ka kb kc o0' te
        · exact types_c0Nf k0 o0 n0 k o m tn w hk ho hm ht ka kb kc o0' te
      · exact types_cnxf k0 o0 n0 k o m tn w hk ho hm ht ka kb kc o0'
    · by_cases te : tn = ⟨#[]⟩
      · exact types_cxEt k0 o0 n0 k o m tn w hk ho hm ht ka kb kc te
      · exact types_cxNt k0 o0 n0 k o m tn w hk ho hm ht ka kb kc te
  by_cases k4 : k = 4
  · cases c
    · by_cases o0' : o = 0
      · by_cases tA : tn = ⟨#[65]⟩
        · exact types_d0Af k0 o0 n0 k o m tn w hk ho hm ht k4 o0' tA
        by_cases tB : tn = ⟨#[66]⟩
        · exact types_d0Bf k0 o0 n0 k o m tn w hk ho hm ht k4 o0' tB
        exact types_d0Of k0 o0 n0 k o m tn w hk ho hm ht k4 o0' tA tB
      · exact types_dnxf k0 o0 n0 k o m tn w hk ho hm ht k4 o0'
    · by_cases tA : tn = ⟨#[65]⟩
      · exact types_dxAt k0 o0 n0 k o m tn w hk ho hm ht k4 tA
      by_cases tB : tn = ⟨#[66]⟩
      · exact types_dxBt k0 o0 n0 k o m tn w hk ho hm ht k4 tB
      exact types_dxOt k0 o0 n0 k o m tn w hk ho hm ht k4 tA tB
  have k5 : k = 5 := by omega
  by_cases ol : o < 1
  · cases c
    · exact types_elxf k0 o0 n0 k o m tn w hk ho hm ht k5 ol
    · exact types_elxt k0 o0 n0 k o m tn w hk ho hm ht k5 ol
  by_cases og : 4 < o
  · cases c
    · exact types_egxf k0 o0 n0 k o m tn w hk ho hm ht k5 ol og
    · exact types_egxt k0 o0 n0 k o m tn w hk ho hm ht k5 ol og
  by_cases om : o ≤ 3
  · by_cases te : tn = ⟨#[]⟩
    · cases c
      · exact types_emEf k0 o0 n0 k o m tn w hk ho hm ht k5 ol og om te
      · exact types_emEt k0 o0 n0 k o m tn w hk ho hm ht k5 ol og om te
    · cases c
      · exact types_emNf k0 o0 n0 k o m tn w hk ho hm ht k5 ol og om te
      · exact types_emNt k0 o0 n0 k o m tn w hk ho hm ht k5 ol og om te
  have o4 : o = 4 := by omega
  by_cases tA : tn = ⟨#[65]⟩
  · cases c
    · exact types_e4Af k0 o0 n0 k o m tn w hk ho hm ht k5 o4 tA
    · exact types_e4At k0 o0 n0 k o m tn w hk ho hm ht k5 o4 tA
  by_cases tB : tn = ⟨#[66]⟩
  · cases c
    · exact types_e4Bf k0 o0 n0 k o m tn w hk ho hm ht k5 o4 tB
    · exact types_e4Bt k0 o0 n0 k o m tn w hk ho hm ht k5 o4 tB
  cases c
  · exact types_e4Of k0 o0 n0 k o m tn w hk ho hm ht k5 o4 tA tB
  · exact types_e4Ot k0 o0 n0 k o m tn w hk ho hm ht k5 o4 tA tB
end Go.Proofs.Ytckjafmnaffggaa
