/- Plain facts of printed codes; walk of the reference's ValidStamp: contract. -/
import Derived.Test.YtmhkgpcnefcjaaaDoorCd
namespace Go.Proofs.YtmhkgpcnefcjaaaDoor
open Go.RowKit

theorem xstamp_eq (pl pr ln : ByteArray) (dy pe : Int) : stampB pl pr ln dy pe = (decide ((pl.size : Int) = 1) && decide ((ln.size : Int) = 1) && decide ((pr.size : Int) = 2) && allSg (pl ++ ln ++ pr).data.toList && inB dy 0 73048 && inB pe 0 30) := by
  unfold stampB speltB
  rw [allSg_app, allSg_app]
  cases decide ((pl.size : Int) = 1) <;> cases decide ((ln.size : Int) = 1) <;> cases decide ((pr.size : Int) = 2) <;> cases allSg pl.data.toList <;> cases allSg ln.data.toList <;> cases allSg pr.data.toList <;> simp
set_option maxRecDepth 100000 in
set_option maxHeartbeats 4000000 in
theorem xstamp_any (pl pr ln : ByteArray) (dy pe : Int) (w : World) :
    Calls Tryd.prog 57 #[.agg #[.string pl, .string pr, .string ln, .int .i64 dy, .int .i64 pe]] w fun e w' => e = .returned (.bool (stampB pl pr ln dy pe)) ∧ Below w.heap.size w w' := by
  have HB := hid ((Below.refl w.heap.size w).alloc (Nat.le_refl _) (.cells #[.string pl, .string pr, .string ln, .int .i64 dy, .int .i64 pe] 48))
  have HE := hid (xstamp_eq pl pr ln dy pe)
  by_cases h1 : (pl.size : Int) = 1
  · have g1 : ((pl.size : Int) == 1) = true := by simpa using h1
    by_cases h2 : (ln.size : Int) = 1
    · have g2 : ((ln.size : Int) == 1) = true := by simpa using h2
      by_cases h3 : (pr.size : Int) = 2
      · have g3 : ((pr.size : Int) == 2) = true := by simpa using h3
        have s1 : pl.size = 1 := by omega
        have s2 : ln.size = 1 := by omega
        have s3 : pr.size = 2 := by omega
        rw [decide_eq_true h1, decide_eq_true h2, decide_eq_true h3, Bool.true_and, Bool.true_and, Bool.true_and] at HE
        have HA := hid (fun W => xall_any (pl ++ ln ++ pr) (by unfold maxLen; simp only [ByteArray.size_append]; omega) W)
        generalize allSg (pl ++ ln ++ pr).data.toList = A at HE HA
        clear h1 h2 h3 g1 g2 g3
        cases A
        · rw [Bool.false_and, Bool.false_and] at HE
          go_enter Tryd.func57, Tryd.ntmps57
          go_wp2_with (go_at_call 64; refine (HA.out _).mono ?_; rintro e9 wk ⟨rfl, rfl⟩)
          go_ret
          exact ⟨ret_bool HE.out.symm, HB.out⟩
        · cases h4 : inB dy 0 73048
          · have H4 := hid h4
            rw [h4, Bool.true_and, Bool.false_and] at HE
            clear h4
            go_enter Tryd.func57, Tryd.ntmps57
            go_wp2_with (first
              | (go_at_call 64; refine (HA.out _).mono ?_; rintro e9 wk ⟨rfl, rfl⟩)
              | (go_at_call 76; refine (xday_any _ _).mono ?_; rintro e9 wk ⟨rfl, rfl⟩; rw [H4.out]))
            go_ret
            exact ⟨ret_bool HE.out.symm, HB.out⟩
          · have H4 := hid h4
            rw [h4, Bool.true_and, Bool.true_and] at HE
            clear h4
            go_enter Tryd.func57, Tryd.ntmps57
            go_wp2_with (first
              | (go_at_call 64; refine (HA.out _).mono ?_; rintro e9 wk ⟨rfl, rfl⟩)
              | (go_at_call 76; refine (xday_any _ _).mono ?_; rintro e9 wk ⟨rfl, rfl⟩; rw [H4.out])
              | (go_at_call 52; refine (xwithin_any _ _ _ _).mono ?_; rintro e9 wk ⟨rfl, rfl⟩))
            go_ret
            exact ⟨ret_bool HE.out.symm, HB.out⟩
      · have g3 : ((pr.size : Int) == 2) = false := by simpa using h3
        rw [decide_eq_false h3, Bool.and_false, Bool.false_and, Bool.false_and, Bool.false_and] at HE
        clear h1 h2 h3
        go_enter Tryd.func57, Tryd.ntmps57
        go_wp2_with fail
        go_ret
        exact ⟨ret_bool HE.out.symm, HB.out⟩
    · have g2 : ((ln.size : Int) == 1) = false := by simpa using h2
      rw [decide_eq_false h2, Bool.and_false, Bool.false_and, Bool.false_and, Bool.false_and, Bool.false_and] at HE
      clear h1 h2
      go_enter Tryd.func57, Tryd.ntmps57
      go_wp2_with fail
      go_ret
      exact ⟨ret_bool HE.out.symm, HB.out⟩
  · have g1 : ((pl.size : Int) == 1) = false := by simpa using h1
    rw [decide_eq_false h1, Bool.false_and, Bool.false_and, Bool.false_and, Bool.false_and, Bool.false_and] at HE
    clear h1
    go_enter Tryd.func57, Tryd.ntmps57
    go_wp2_with fail
    go_ret
    exact ⟨ret_bool HE.out.symm, HB.out⟩
theorem sgn_valB {c : UInt8} (h : 0 ≤ valB c) : sgn (valB c) = c := by
  have : ∀ k : Fin 256, 0 ≤ valB (UInt8.ofNat k.val) → sgn (valB (UInt8.ofNat k.val)) = UInt8.ofNat k.val := by decide +kernel
  have h2 := this ⟨c.toNat, c.toNat_lt⟩
  simpa using h2 (by simpa using h)
/-- A code's first eight signs. -/
def P8 (pl pr ln : ByteArray) (Z A B pe : Int) : ByteArray := pl ++ pr ++ ⟨#[sgn Z, sgn A, sgn B]⟩ ++ ln ++ ⟨#[sgn pe]⟩
theorem pre_list (pl pr ln : ByteArray) (Z A B pe : Int) : (preT pl pr ln Z A B pe).data.toList = (P8 pl pr ln Z A B pe).data.toList ++ [48] := by
  unfold preT P8 txtV txt
  simp only [ByteArray.data_append, Array.toList_append]
  have e : sgn 0 = 48 := by decide
  simp [intOf, e]
theorem p8_len {pl pr ln : ByteArray} {Z A B pe : Int} (h1 : pl.size = 1) (h2 : pr.size = 2) (h3 : ln.size = 1) : (P8 pl pr ln Z A B pe).data.toList.length = 8 := by
  have : (P8 pl pr ln Z A B pe).size = 8 := by
    unfold P8
    simp only [ByteArray.size_append]
    have e1 : (⟨#[sgn Z, sgn A, sgn B]⟩ : ByteArray).size = 3 := rfl
    have e2 : (⟨#[sgn pe]⟩ : ByteArray).size = 1 := rfl
    omega
  exact this
theorem vals_p8 {pl pr ln : ByteArray} {Z A B pe v : Int} (h1 : pl.size = 1) (h2 : pr.size = 2) (h3 : ln.size = 1) (hv : 0 ≤ v ∧ v ≤ 30) : vals (P8 pl pr ln Z A B pe ++ ⟨#[sgn v]⟩) = (vals (preT pl pr ln Z A B pe)).set 8 v := by
  have hl := p8_len (Z := Z) (A := A) (B := B) (pe := pe) h1 h2 h3
  unfold vals
  rw [pre_list, ByteArray.data_append, Array.toList_append, List.map_append, List.map_append, List.set_append_right _ _ (by simp [hl])]
  have e : 8 - (List.map valB (P8 pl pr ln Z A B pe).data.toList).length = 0 := by simp [hl]
  rw [e]
  simp [valB_sgn hv]
theorem nine_p8 {pl pr ln : ByteArray} {Z A B pe v : Int} (h1 : pl.size = 1) (h2 : pr.size = 2) (h3 : ln.size = 1) (hv : 0 ≤ v ∧ v ≤ 30) (h : nineB (preT pl pr ln Z A B pe) = true) : nineB (P8 pl pr ln Z A B pe ++ ⟨#[sgn v]⟩) = true := by
  obtain ⟨hs, ha⟩ := nineB_iff.1 h
  have hl := p8_len (Z := Z) (A := A) (B := B) (pe := pe) h1 h2 h3
  rw [nineB_iff]
  refine ⟨?_, ?_⟩
  · rw [ByteArray.size_append]
    have : (P8 pl pr ln Z A B pe).size = 8 := hl
    rw [this]; rfl
  · rw [allSg_app]
    rw [pre_list] at ha
    unfold allSg at ha ⊢
    rw [List.all_append, Bool.and_eq_true] at ha
    rw [ha.1, Bool.true_and]
    simp only [List.all_cons, List.all_nil, Bool.and_true]
    rw [valB_sgn hv]
    exact decide_eq_true hv.1
theorem txt_p8 {pl pr ln : ByteArray} {Z A B pe v : Int} (h1 : pl.size = 1) (h2 : pr.size = 2) (h3 : ln.size = 1) (hv : 0 ≤ v ∧ v ≤ 30) (h : nineB (preT pl pr ln Z A B pe) = true) : txt ((vals (preT pl pr ln Z A B pe)).set 8 v) = P8 pl pr ln Z A B pe ++ ⟨#[sgn v]⟩ := by
  rw [← vals_p8 h1 h2 h3 hv]
  obtain ⟨_, ha⟩ := nineB_iff.1 (nine_p8 h1 h2 h3 hv h)
  generalize P8 pl pr ln Z A B pe ++ ⟨#[sgn v]⟩ = T at ha
  obtain ⟨⟨l⟩⟩ := T
  unfold txt vals
  congr 1
  rw [List.map_map]
  have : (l.map (sgn ∘ valB)) = l := by
    refine (List.map_congr_left (g := id) fun x hx => ?_).trans (List.map_id l)
    exact sgn_valB (of_decide_eq_true (List.all_eq_true.1 ha x hx))
  show (List.map (sgn ∘ valB) l).toArray = l.toArray
  rw [this]
theorem sound_p8 {pl pr ln : ByteArray} {Z A B pe v : Int} (h1 : pl.size = 1) (h2 : pr.size = 2) (h3 : ln.size = 1) (hv : 0 ≤ v ∧ v ≤ 30) (h : nineB (preT pl pr ln Z A B pe) = true) : soundS (P8 pl pr ln Z A B pe ++ ⟨#[sgn v]⟩) = soundB ((vals (preT pl pr ln Z A B pe)).set 8 v) := by
  unfold soundS
  rw [nine_p8 h1 h2 h3 hv h, Bool.true_and, vals_p8 h1 h2 h3 hv]
end Go.Proofs.YtmhkgpcnefcjaaaDoor
