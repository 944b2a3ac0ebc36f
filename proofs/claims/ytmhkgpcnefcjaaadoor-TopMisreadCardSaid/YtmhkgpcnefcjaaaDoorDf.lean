/- Walks of IndexRune at a rune that is no ASCII sign: contracts. -/
import Derived.Test.YtmhkgpcnefcjaaaDoorDe
namespace Go.Proofs.YtmhkgpcnefcjaaaDoor
open Go.RowKit

theorem sg_hi {l : List UInt8} (hl : ∀ b ∈ l, b ∈ sg) {c : UInt8} (h : 128 ≤ c.toNat) : Lib.indexByte l c = -1 := by
  refine indexByte_none fun b hb hbc => ?_
  subst hbc
  have : ∀ x ∈ sg, x.toNat < 128 := by decide
  have := this b (hl b hb)
  omega
theorem sgs_extract (a e : Nat) : ∀ b ∈ ((⟨#[48, 49, 50, 51, 52, 53, 54, 55, 56, 57, 65, 66, 67, 68, 69, 70, 71, 72, 74, 75, 76, 77, 78, 80, 81, 82, 83, 84, 85, 86, 87]⟩ : ByteArray).extract a e).data.toList, b ∈ sg := fun b hb => by
  have := mem_extract hb
  rwa [sgs_list] at this
theorem enc_cases (r : Int) (hv : Utf8.valid r = true) (h : 128 ≤ r) : (∃ a b : UInt8, Utf8.encode r = ⟨#[a, b]⟩ ∧ 128 ≤ b.toNat) ∨ (∃ a b c : UInt8, Utf8.encode r = ⟨#[a, b, c]⟩ ∧ 128 ≤ c.toNat) ∨ (∃ a b c d : UInt8, Utf8.encode r = ⟨#[a, b, c, d]⟩ ∧ 128 ≤ d.toNat) := by
  have hc : ¬ r.toNat < 128 := by omega
  unfold Utf8.encode
  simp only [hv, if_true, hc, if_false]
  split
  · refine .inl ⟨_, _, rfl, ?_⟩
    simp; omega
  · split
    · refine .inr (.inl ⟨_, _, _, rfl, ?_⟩)
      simp; omega
    · refine .inr (.inr ⟨_, _, _, _, rfl, ?_⟩)
      simp; omega
set_option maxRecDepth 100000 in
set_option maxHeartbeats 4000000 in
theorem irune_err (w : World) :
    Calls Tryd.prog 79 #[.string ⟨#[48, 49, 50, 51, 52, 53, 54, 55, 56, 57, 65, 66, 67, 68, 69, 70, 71, 72, 74, 75, 76, 77, 78, 80, 81, 82, 83, 84, 85, 86, 87]⟩, .int .i32 65533] w fun e w' => e = .returned (.int .i64 (-1)) ∧ Below w.heap.size w w' := by
  go_enter Tryd.func79, Tryd.ntmps79
  go_wp2
  go_loopw [5] (fun _ w' => ∃ pos : Nat, w' = w.iter ⟨#[48, 49, 50, 51, 52, 53, 54, 55, 56, 57, 65, 66, 67, 68, 69, 70, 71, 72, 74, 75, 76, 77, 78, 80, 81, 82, 83, 84, 85, 86, 87]⟩ pos) (fun _ w' => 31 - w'.iterPos w.heap.size)
  case atStart => exact ⟨0, rfl⟩
  case round =>
    obtain ⟨pos, rfl⟩ := hrel
    by_cases hp : pos < (⟨#[48, 49, 50, 51, 52, 53, 54, 55, 56, 57, 65, 66, 67, 68, 69, 70, 71, 72, 74, 75, 76, 77, 78, 80, 81, 82, 83, 84, 85, 86, 87]⟩ : ByteArray).size
    · have ha : (((⟨#[48, 49, 50, 51, 52, 53, 54, 55, 56, 57, 65, 66, 67, 68, 69, 70, 71, 72, 74, 75, 76, 77, 78, 80, 81, 82, 83, 84, 85, 86, 87]⟩ : ByteArray)[pos]'hp).toNat) < 128 := by
        rw [sgs_at pos hp]
        have : ∀ k < 31, (sg.getD k 0).toNat < 128 := by decide
        exact this pos hp
      have hnx : ∀ ty, (Instr.next (.pointer (some ⟨w.heap.size, 0, none⟩)) true ty).run Tryd.prog (w.iter ⟨#[48, 49, 50, 51, 52, 53, 54, 55, 56, 57, 65, 66, 67, 68, 69, 70, 71, 72, 74, 75, 76, 77, 78, 80, 81, 82, 83, 84, 85, 86, 87]⟩ pos) = _ := fun ty => run_next_ascii w ⟨#[48, 49, 50, 51, 52, 53, 54, 55, 56, 57, 65, 66, 67, 68, 69, 70, 71, 72, 74, 75, 76, 77, 78, 80, 81, 82, 83, 84, 85, 86, 87]⟩ pos ty hp ha
      generalize ((⟨#[48, 49, 50, 51, 52, 53, 54, 55, 56, 57, 65, 66, 67, 68, 69, 70, 71, 72, 74, 75, 76, 77, 78, 80, 81, 82, 83, 84, 85, 86, 87]⟩ : ByteArray)[pos]'hp).toNat = z at hnx ha
      have hz : ((z : Int) == 65533) = false := by simp; omega
      have HP := hid hp
      clear hp
      go_wp2
      go_roundw
      case rel => exact ⟨pos + 1, rfl⟩
      case measure => have := HP.out; have h31 : (⟨#[48, 49, 50, 51, 52, 53, 54, 55, 56, 57, 65, 66, 67, 68, 69, 70, 71, 72, 74, 75, 76, 77, 78, 80, 81, 82, 83, 84, 85, 86, 87]⟩ : ByteArray).size = 31 := rfl; simp; omega
    · have hnx : ∀ ty, (Instr.next (.pointer (some ⟨w.heap.size, 0, none⟩)) true ty).run Tryd.prog (w.iter ⟨#[48, 49, 50, 51, 52, 53, 54, 55, 56, 57, 65, 66, 67, 68, 69, 70, 71, 72, 74, 75, 76, 77, 78, 80, 81, 82, 83, 84, 85, 86, 87]⟩ pos) = _ := fun ty => run_next_end w ⟨#[48, 49, 50, 51, 52, 53, 54, 55, 56, 57, 65, 66, 67, 68, 69, 70, 71, 72, 74, 75, 76, 77, 78, 80, 81, 82, 83, 84, 85, 86, 87]⟩ pos ty hp
      clear hp
      go_wp2
      go_ret
      exact ⟨rfl, (Below.refl _ _).alloc (Nat.le_refl _) _⟩
set_option maxRecDepth 100000 in
set_option maxHeartbeats 4000000 in
theorem irune_bad (r : Int) (w : World) (h : 128 ≤ r) (hne : r ≠ 65533) (hv : Utf8.valid r = false) (hm : r ≤ 2147483647) :
    Calls Tryd.prog 79 #[.string ⟨#[48, 49, 50, 51, 52, 53, 54, 55, 56, 57, 65, 66, 67, 68, 69, 70, 71, 72, 74, 75, 76, 77, 78, 80, 81, 82, 83, 84, 85, 86, 87]⟩, .int .i32 r] w fun e w' => e = .returned (.int .i64 (-1)) ∧ Below w.heap.size w w' := by
  have hvv := validRune_eq r
  rw [hv] at hvv
  have hx : ¬ ((0 ≤ r ∧ r < 55296) ∨ (57343 < r ∧ r ≤ 1114111)) := by
    intro g
    unfold validRune at hvv
    rw [decide_eq_true g] at hvv
    cases hvv
  have h2 : (r == 65533) = false := by simp; omega
  clear hvv hv
  go_enter Tryd.func79, Tryd.ntmps79
  rcases (show (55296 ≤ r ∧ r ≤ 57343) ∨ 1114111 < r by omega) with ⟨h3, h4⟩ | h3
  · clear hx
    go_wp2
    go_ret
    exact ⟨rfl, Below.refl _ _⟩
  · clear hx
    go_wp2
    go_ret
    exact ⟨rfl, Below.refl _ _⟩
end Go.Proofs.YtmhkgpcnefcjaaaDoor
