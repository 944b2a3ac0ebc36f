/- Walks of IndexRune at any high rune, spelt, and of the reference's Value, Sign, all, Nine: contracts. -/
import Derived.Test.YtmhkgpcnefcjaaaDoorDg
namespace Go.Proofs.YtmhkgpcnefcjaaaDoor
open Go.RowKit

theorem irune_hi (r : Int) (w : World) (h : 128 ≤ r) (hm : r ≤ 2147483647) :
    Calls Tryd.prog 79 #[.string ⟨#[48, 49, 50, 51, 52, 53, 54, 55, 56, 57, 65, 66, 67, 68, 69, 70, 71, 72, 74, 75, 76, 77, 78, 80, 81, 82, 83, 84, 85, 86, 87]⟩, .int .i32 r] w fun e w' => e = .returned (.int .i64 (-1)) ∧ Below w.heap.size w w' := by
  by_cases hne : r = 65533
  · subst hne; exact irune_err w
  · cases hv : Utf8.valid r
    · exact irune_bad r w h hne hv hm
    · have hx : (0 ≤ r ∧ r < 55296) ∨ (57343 < r ∧ r ≤ 1114111) := by
        rw [validRune_eq] at hv
        unfold validRune at hv
        exact of_decide_eq_true hv
      rcases enc_cases r hv h with ⟨a, b, he, hb⟩ | ⟨a, b, c, he, hb⟩ | ⟨a, b, c, d, he, hb⟩
      · exact irune_enc2 r w a b h hne hx he hb
      · exact irune_enc3 r w a b c h hne hx he hb
      · exact irune_enc4 r w a b c d h hne hx he hb
def allSg (l : List UInt8) : Bool := l.all fun c => decide (0 ≤ valB c)
def speltB (s : ByteArray) (n : Int) : Bool := decide ((s.size : Int) = n) && allSg s.data.toList
theorem data_at (s : ByteArray) (k : Nat) (h : k < s.size) (h' : k < s.data.toList.length) : s[k]'h = s.data.toList[k]'h' := rfl
theorem data_len (s : ByteArray) : s.data.toList.length = s.size := rfl
theorem allSg_end {s : ByteArray} (h : ∀ j (hj : j < s.size), 0 ≤ valB (s[j]'hj)) : allSg s.data.toList = true := by
  refine List.all_eq_true.2 fun x hx => ?_
  obtain ⟨j, hj, rfl⟩ := List.getElem_of_mem hx
  exact decide_eq_true (h j hj)
theorem allSg_bad {s : ByteArray} {k : Nat} (hk : k < s.size) (h : ¬ 0 ≤ valB (s[k]'hk)) : allSg s.data.toList = false := by
  rw [Bool.eq_false_iff]
  intro g
  have := List.all_eq_true.1 g _ (List.getElem_mem (show k < s.data.toList.length from hk))
  exact h (of_decide_eq_true this)
theorem sg_step {s : ByteArray} {k : Nat} (hk : k < s.size) (h : ∀ j (hj : j < s.size), j < k → 0 ≤ valB (s[j]'hj)) (g : 0 ≤ valB (s[k]'hk)) : ∀ j (hj : j < s.size), j < k + 1 → 0 ≤ valB (s[j]'hj) := by
  intro j hj hj2
  rcases Nat.lt_succ_iff_lt_or_eq.1 hj2 with h1 | h1
  · exact h j hj h1
  · subst h1; exact g
set_option maxRecDepth 100000 in
set_option maxHeartbeats 1000000 in
theorem spelt_any (s : ByteArray) (n : Int) (w : World) :
    Calls Tryd.prog 62 #[.string s, .int .i64 n] w fun e w' => e = .returned (.bool (speltB s n)) ∧ Below w.heap.size w w' := by
  by_cases hn : (s.size : Int) = n
  · have HE := hid (show speltB s n = allSg s.data.toList by unfold speltB; rw [decide_eq_true hn, Bool.true_and])
    subst hn
    have hne : ((s.size : Int) != (s.size : Int)) = false := by simp
    go_enter Tryd.func62, Tryd.ntmps62
    go_wp2_with fail
    go_loopw [4] (fun _ w' => ∃ pos : Nat, w' = w.iter s pos ∧ Hid (∀ j (hj : j < s.size), j < pos → 0 ≤ valB (s[j]'hj))) (fun _ w' => s.size - w'.iterPos w.heap.size)
    case atStart => exact ⟨0, rfl, fun j _ h => absurd h (Nat.not_lt_zero j)⟩
    case round =>
      obtain ⟨pos, rfl, hok⟩ := hrel
      by_cases hp : pos < s.size
      · have HP := hid hp
        by_cases ha : (s[pos]'hp).toNat < 128
        · have hnx : ∀ ty, (Instr.next (.pointer (some ⟨w.heap.size, 0, none⟩)) true ty).run Tryd.prog (w.iter s pos) = _ := fun ty => run_next_ascii w s pos ty hp ha
          have HST := hid (sg_step hp hok.out)
          have HBD := hid (fun h => allSg_bad (s := s) hp h)
          generalize s[pos]'hp = c at hnx ha HST HBD
          have HR := hid (fun w => irune_lo ⟨#[48, 49, 50, 51, 52, 53, 54, 55, 56, 57, 65, 66, 67, 68, 69, 70, 71, 72, 74, 75, 76, 77, 78, 80, 81, 82, 83, 84, 85, 86, 87]⟩ (c.toNat : Int) w (by omega) (by omega))
          have hcc : ((c.toNat : Int).toNat.toUInt8) = c := by simp
          rw [hcc, sgs_list] at HR
          clear hcc hok hp
          by_cases hv : 0 ≤ valB c
          · have HG := hid (HST.out hv)
            have hv2 : ¬ valB c < 0 := by omega
            go_wp2_with (go_at_call 79; refine (HR.out _).mono ?_; rintro e w' ⟨rfl, rfl⟩; refine (show valB c = Lib.indexByte sg c from rfl) ▸ ?_)
            go_roundw
            case rel => exact ⟨pos + 1, rfl, HG.out⟩
            case measure => have := HP.out; simp; omega
          · have HG := hid (HBD.out hv)
            have hv2 : valB c < 0 := by omega
            go_wp2_with (go_at_call 79; refine (HR.out _).mono ?_; rintro e w' ⟨rfl, rfl⟩; refine (show valB c = Lib.indexByte sg c from rfl) ▸ ?_)
            go_ret
            exact ⟨ret_bool (by rw [HE.out, HG.out]), (Below.refl _ _).alloc (Nat.le_refl _) _⟩
        · have hnx : ∀ ty, (Instr.next (.pointer (some ⟨w.heap.size, 0, none⟩)) true ty).run Tryd.prog (w.iter s pos) = _ := fun ty => run_next_any w s pos ty hp
          have h1 := (decode_high s pos hp (by omega)).1
          have h2 := decode_le s pos
          have HBD := hid (allSg_bad (s := s) hp (by rw [valB_hi (by omega)]; decide))
          generalize (Utf8.decode s pos).1 = r at *
          generalize (Utf8.decode s pos).2 = wd at *
          have HR := hid (fun w => irune_hi (r : Int) w (by omega) (by omega))
          clear h1 h2 hok hp ha
          go_wp2_with fail
          refine (HR.out _).mono ?_
          rintro e w2 ⟨rfl, hb⟩
          have HB := hid (bstep ((Below.refl w.heap.size w).alloc (Nat.le_refl _) (.stringIter s (pos + wd))) (by simp) hb)
          clear hb
          go_wp2_with fail
          go_ret
          exact ⟨ret_bool (by rw [HE.out, HBD.out]), HB.out⟩
      · have hnx : ∀ ty, (Instr.next (.pointer (some ⟨w.heap.size, 0, none⟩)) true ty).run Tryd.prog (w.iter s pos) = _ := fun ty => run_next_end w s pos ty hp
        have HG := hid (allSg_end (s := s) fun j hj => hok.out j hj (by omega))
        clear hp hok
        go_wp2_with fail
        go_ret
        exact ⟨ret_bool (by rw [HE.out, HG.out]), (Below.refl _ _).alloc (Nat.le_refl _) _⟩
  · have HE := hid (show speltB s n = false by unfold speltB; rw [decide_eq_false hn, Bool.false_and])
    have hne : ((s.size : Int) != n) = true := by simpa using hn
    clear hn
    go_enter Tryd.func62, Tryd.ntmps62
    go_wp2_with fail
    go_ret
    exact ⟨ret_bool HE.out.symm, Below.refl _ _⟩
end Go.Proofs.YtmhkgpcnefcjaaaDoor
