/- Signs: their values; walks of IndexByte, IndexRune, Value, Sign: contracts. -/
import Derived.Test.YtmhkgpcnefcjaaaDoorDa
import Derived.Test.YtmhkgpcnefcjaaaDoorGt
import Derived.ProofKit
import Derived.OpenShut
import Derived.Deep.RegionHeld3
import Derived.Laws.OwnMore
import Derived.Lib.Bytealg
import Derived.Laws.Runes
import Derived.Laws.RangeAny
import Derived.LoopTactic
namespace Go.Proofs.YtmhkgpcnefcjaaaDoor
open Go.RowKit

/-- The signs by their values. -/
def sg : List UInt8 := [48, 49, 50, 51, 52, 53, 54, 55, 56, 57, 65, 66, 67, 68, 69, 70, 71, 72, 74, 75, 76, 77, 78, 80, 81, 82, 83, 84, 85, 86, 87]
def valB (c : UInt8) : Int := Lib.indexByte sg c
theorem indexByte_lt (l : List UInt8) (c : UInt8) : Lib.indexByte l c < l.length ∨ Lib.indexByte l c = -1 := by
  induction l with
  | nil => exact .inr rfl
  | cons b l ih =>
    unfold Lib.indexByte
    split
    · exact .inl (by simp only [List.length_cons]; omega)
    · split
      · exact .inr rfl
      · rename_i h
        rcases ih with h1 | h1
        · exact .inl (by simp only [List.length_cons]; omega)
        · rw [h1] at h; exact absurd rfl h
theorem valB_bd (c : UInt8) : -1 ≤ valB c ∧ valB c ≤ 30 := by
  have h1 := Lib.indexByte_ge sg c
  have h2 := indexByte_lt sg c
  have h3 : sg.length = 31 := rfl
  unfold valB
  omega
theorem indexByte_none {l : List UInt8} {c : UInt8} (h : ∀ b ∈ l, b ≠ c) : Lib.indexByte l c = -1 := by
  induction l with
  | nil => rfl
  | cons b l ih =>
    have e : (b == c) = false := by simpa using h b (List.mem_cons_self ..)
    unfold Lib.indexByte
    rw [e, ih fun x hx => h x (List.mem_cons_of_mem _ hx)]
    rfl
theorem valB_hi {c : UInt8} (h : 128 ≤ c.toNat) : valB c = -1 := by
  refine indexByte_none fun b hb hbc => ?_
  subst hbc
  revert h
  have : ∀ x ∈ sg, x.toNat < 128 := by decide
  intro h
  have := this b hb
  omega
set_option maxHeartbeats 1000000 in
set_option maxRecDepth 100000 in
theorem ibyte0_any (s : ByteArray) (c : Int) (w : World) :
    Calls Tryd.prog 102 #[.string s, .int .u8 c] w fun e w' => e = .returned (.int .i64 (Lib.indexByte s.data.toList c.toNat.toUInt8)) ∧ w = w' := by
  go_enter Tryd.func102, Tryd.ntmps102
  go_wp2
  rw [run_callFunc_extern Tryd.func111 (by kernel_rfl) (by kernel_rfl) (by kernel_rfl) (e := Extern.BytealgIndexByte.indexByte) (by kernel_rfl), Lib.run_indexByteString]
  simp only [Result.andThen]
  rw [Oper.upon_value]
  go_wp2
  go_ret
  exact ⟨rfl, rfl⟩
set_option maxHeartbeats 1000000 in
theorem ibyte_any (s : ByteArray) (c : Int) (w : World) :
    Calls Tryd.prog 80 #[.string s, .int .u8 c] w fun e w' => e = .returned (.int .i64 (Lib.indexByte s.data.toList c.toNat.toUInt8)) ∧ w = w' := by
  go_enter Tryd.func80, Tryd.ntmps80
  go_wp2_with (go_at_call 102; refine (ibyte0_any _ _ _).mono ?_; rintro e w' ⟨rfl, rfl⟩)
  go_ret
  exact ⟨rfl, rfl⟩
theorem sgs_list : ((⟨#[48, 49, 50, 51, 52, 53, 54, 55, 56, 57, 65, 66, 67, 68, 69, 70, 71, 72, 74, 75, 76, 77, 78, 80, 81, 82, 83, 84, 85, 86, 87]⟩ : ByteArray).data.toList) = sg := rfl
set_option maxHeartbeats 1000000 in
theorem cvalue_any (c : UInt8) (w : World) :
    Calls Tryd.prog 63 #[.int .u8 (c.toNat : Int)] w fun e w' => e = .returned (.int .i64 (valB c)) ∧ w = w' := by
  go_enter Tryd.func63, Tryd.ntmps63
  go_wp2_with (go_at_call 80; refine (ibyte_any _ _ _).mono ?_; rintro e w' ⟨rfl, rfl⟩)
  go_ret
  refine ⟨ret_int ?_, rfl⟩
  first
    | rfl
    | (have : ((c.toNat : Int).toNat.toUInt8) = c := by simp
       rw [this]; rfl)
/-- The sign with a value. -/
def sgn (v : Int) : UInt8 := if 0 ≤ v ∧ v ≤ 30 then sg.getD v.toNat 0 else 0
set_option maxRecDepth 100000 in
set_option maxHeartbeats 1000000 in
theorem irune_lo (s : ByteArray) (r : Int) (w : World) (h0 : 0 ≤ r) (h1 : r < 128) :
    Calls Tryd.prog 79 #[.string s, .int .i32 r] w fun e w' => e = .returned (.int .i64 (Lib.indexByte s.data.toList r.toNat.toUInt8)) ∧ w = w' := by
  go_enter Tryd.func79, Tryd.ntmps79
  go_wp2_with (go_at_call 80; refine (ibyte_any _ _ _).mono ?_; rintro e w' ⟨rfl, rfl⟩)
  go_ret
  refine ⟨ret_int ?_, rfl⟩
  have : IntKind.u8.wrap r = r := by
    unfold IntKind.wrap; simp [IntKind.bits, IntKind.signed]; omega
  first
    | rfl
    | rw [this]
end Go.Proofs.YtmhkgpcnefcjaaaDoor
