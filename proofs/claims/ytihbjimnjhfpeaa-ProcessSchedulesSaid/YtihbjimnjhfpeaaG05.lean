/- Texts of this seat, one behind the other. -/
import Derived.Test.YtihbjimnjhfpeaaG03
import Derived.Test.YtihbjimnjhfpeaaG04
import Derived.Test.YtihbjimnjhfpeaaG02
import Derived.Test.YtihbjimnjhfpeaaG01
import Derived.Deep.QuietTactic
/- Walks of validSchedule of both: contracts. -/
namespace Go.Proofs.Ytihbjimnjhfpeaa
open Go.RowKit Go.Lib

set_option maxHeartbeats 400000 in
theorem x4within_any (a b c : Int) (w : World) :
    Calls Try.prog 14 #[.int .i64 a, .int .i64 b, .int .i64 c] w fun e w' => e = .returned (.bool (decide (b ≤ a) && decide (a ≤ c))) ∧ w = w' := by
  by_cases h : b ≤ a
  · have hd : decide (b ≤ a) = true := by simpa using h
    go_enter Try.func14, Try.ntmps14
    go_wp2
    go_ret
    exact ⟨by simp [hd], rfl⟩
  · have hd : decide (b ≤ a) = false := by simpa using h
    go_enter Try.func14, Try.ntmps14
    go_wp2
    go_ret
    exact ⟨by simp, rfl⟩
set_option maxRecDepth 20000 in
set_option maxHeartbeats 4000000 in
theorem pvs_any (x : Sch) (w : World) (hs : x.pr.size ≤ maxLen) :
    Calls Try.prog 15 #[.agg #[.string x.pr, .int .i64 x.it, .int .i64 x.tm, .int .i64 x.tk, .int .i64 x.fl]] w fun e w' => e = .returned (.bool x.ok) ∧ Below w.heap.size w w' := by
  have BX := hid (box1_start (w := w) (A := #[.string x.pr, .int .i64 x.it, .int .i64 x.tm, .int .i64 x.tk, .int .i64 x.fl]) (T := 39) (fz := (0, 0)))
  have HNM := hid (fun W => Lt.lname_any x.pr W hs)
  have HOK := hid (show x.ok = (Lt.nameB x.pr.data.toList && okT x.it && inB x.tm 0 200000 && inB x.tk 1 2000 && inB x.fl 1 1000000) from rfl)
  have HTM : Hid ((decide (0 ≤ x.tm) && decide (x.tm ≤ 200000)) = inB x.tm 0 200000) := rfl
  have HTK : Hid ((decide (1 ≤ x.tk) && decide (x.tk ≤ 2000)) = inB x.tk 1 2000) := rfl
  have HFL : Hid ((decide (1 ≤ x.fl) && decide (x.fl ≤ 1000000)) = inB x.fl 1 1000000) := rfl
  have HIT : Hid ((decide (-50000 ≤ x.it) && decide (x.it ≤ 200000)) = okT x.it) := rfl
  have HOL := hid (show okL [x.it] = okT x.it by simp [okL])
  generalize Sch.ok x = okk at *
  obtain ⟨pr, it, tm, tk, fl⟩ := x
  dsimp only at *
  generalize Lt.nameB pr.data.toList = b0 at *
  generalize okT it = b1 at *
  generalize inB tm 0 200000 = b2 at *
  generalize inB tk 1 2000 = b3 at *
  generalize inB fl 1 1000000 = b4 at *
  clear hs
  cases b0
  · have HE : Hid (okk = false) := by
      refine hid ?_
      rw [HOK.out]
      simp
    go_enter Try.func15, Try.ntmps15
    go_wp2_with fail
    refine (HNM.out _).mono ?_
    rintro e w1 ⟨rfl, rfl⟩
    go_wp2_with fail
    go_ret
    exact ⟨ret_bool HE.out.symm, BX.out.low⟩
  cases b1
  · have HE : Hid (okk = false) := by
      refine hid ?_
      rw [HOK.out]
      simp
    go_enter Try.func15, Try.ntmps15
    go_wp2_with fail
    refine (HNM.out _).mono ?_
    rintro e w1 ⟨rfl, rfl⟩
    go_wp2_with fail
    refine (ptemps_any _ _ [it] (one_row it _ (by simp))).mono ?_
    rintro e w2 ⟨rfl, rfl⟩
    rw [HOL.out]
    have BX := hid (BX.out.keep ((Below.refl _ _).alloc (Nat.le_refl _) (.cells #[.int .i64 it] 3)))
    have c2 := BX.out.fst 2; have c3 := BX.out.fst 3; have c4 := BX.out.fst 4
    simp only [List.getElem?_toArray, List.getElem?_cons_zero, List.getElem?_cons_succ] at c2 c3 c4
    go_wp2_with fail
    go_ret
    exact ⟨ret_bool HE.out.symm, BX.out.low⟩
  cases b2
  · have HE : Hid (okk = false) := by
      refine hid ?_
      rw [HOK.out]
      simp
    go_enter Try.func15, Try.ntmps15
    go_wp2_with fail
    refine (HNM.out _).mono ?_
    rintro e w1 ⟨rfl, rfl⟩
    go_wp2_with fail
    refine (ptemps_any _ _ [it] (one_row it _ (by simp))).mono ?_
    rintro e w2 ⟨rfl, rfl⟩
    rw [HOL.out]
    have BX := hid (BX.out.keep ((Below.refl _ _).alloc (Nat.le_refl _) (.cells #[.int .i64 it] 3)))
    have c2 := BX.out.fst 2; have c3 := BX.out.fst 3; have c4 := BX.out.fst 4
    simp only [List.getElem?_toArray, List.getElem?_cons_zero, List.getElem?_cons_succ] at c2 c3 c4
    go_wp2_with fail
    refine (pwithin_any _ _ _ _).mono ?_
    rintro e w3 ⟨rfl, rfl⟩
    rw [HTM.out]
    go_wp2_with fail
    go_ret
    exact ⟨ret_bool HE.out.symm, BX.out.low⟩
  cases b3
  · have HE : Hid (okk = false) := by
      refine hid ?_
      rw [HOK.out]
      simp
    go_enter Try.func15, Try.ntmps15
    go_wp2_with fail
    refine (HNM.out _).mono ?_
    rintro e w1 ⟨rfl, rfl⟩
    go_wp2_with fail
    refine (ptemps_any _ _ [it] (one_row it _ (by simp))).mono ?_
    rintro e w2 ⟨rfl, rfl⟩
    rw [HOL.out]
    have BX := hid (BX.out.keep ((Below.refl _ _).alloc (Nat.le_refl _) (.cells #[.int .i64 it] 3)))
    have c2 := BX.out.fst 2; have c3 := BX.out.fst 3; have c4 := BX.out.fst 4
    simp only [List.getElem?_toArray, List.getElem?_cons_zero, List.getElem?_cons_succ] at c2 c3 c4
    go_wp2_with fail
    refine (pwithin_any _ _ _ _).mono ?_
    rintro e w3 ⟨rfl, rfl⟩
    rw [HTM.out]
    go_wp2_with fail
    refine (pwithin_any _ _ _ _).mono ?_
    rintro e w4 ⟨rfl, rfl⟩
    rw [HTK.out]
    go_wp2_with fail
    go_ret
    exact ⟨ret_bool HE.out.symm, BX.out.low⟩
  cases b4
  · have HE : Hid (okk = false) := by
      refine hid ?_
      rw [HOK.out]
      simp
    go_enter Try.func15, Try.ntmps15
    go_wp2_with fail
    refine (HNM.out _).mono ?_
    rintro e w1 ⟨rfl, rfl⟩
    go_wp2_with fail
    refine (ptemps_any _ _ [it] (one_row it _ (by simp))).mono ?_
    rintro e w2 ⟨rfl, rfl⟩
    rw [HOL.out]
    have BX := hid (BX.out.keep ((Below.refl _ _).alloc (Nat.le_refl _) (.cells #[.int .i64 it] 3)))
    have c2 := BX.out.fst 2; have c3 := BX.out.fst 3; have c4 := BX.out.fst 4
    simp only [List.getElem?_toArray, List.getElem?_cons_zero, List.getElem?_cons_succ] at c2 c3 c4
    go_wp2_with fail
    refine (pwithin_any _ _ _ _).mono ?_
    rintro e w3 ⟨rfl, rfl⟩
    rw [HTM.out]
    go_wp2_with fail
    refine (pwithin_any _ _ _ _).mono ?_
    rintro e w4 ⟨rfl, rfl⟩
    rw [HTK.out]
    go_wp2_with fail
    refine (pwithin_any _ _ _ _).mono ?_
    rintro e w5 ⟨rfl, rfl⟩
    rw [HFL.out]
    go_wp2_with fail
    go_ret
    exact ⟨ret_bool HE.out.symm, BX.out.low⟩
  have HE : Hid (okk = true) := by
    refine hid ?_
    rw [HOK.out]
    simp
  go_enter Try.func15, Try.ntmps15
  go_wp2_with fail
  refine (HNM.out _).mono ?_
  rintro e w1 ⟨rfl, rfl⟩
  go_wp2_with fail
  refine (ptemps_any _ _ [it] (one_row it _ (by simp))).mono ?_
  rintro e w2 ⟨rfl, rfl⟩
  rw [HOL.out]
  have BX := hid (BX.out.keep ((Below.refl _ _).alloc (Nat.le_refl _) (.cells #[.int .i64 it] 3)))
  have c2 := BX.out.fst 2; have c3 := BX.out.fst 3; have c4 := BX.out.fst 4
  simp only [List.getElem?_toArray, List.getElem?_cons_zero, List.getElem?_cons_succ] at c2 c3 c4
  go_wp2_with fail
  refine (pwithin_any _ _ _ _).mono ?_
  rintro e w3 ⟨rfl, rfl⟩
  rw [HTM.out]
  go_wp2_with fail
  refine (pwithin_any _ _ _ _).mono ?_
  rintro e w4 ⟨rfl, rfl⟩
  rw [HTK.out]
  go_wp2_with fail
  refine (pwithin_any _ _ _ _).mono ?_
  rintro e w5 ⟨rfl, rfl⟩
  rw [HFL.out]
  go_wp2_with fail
  go_ret
  exact ⟨ret_bool HE.out.symm, BX.out.low⟩
set_option maxRecDepth 20000 in
set_option maxHeartbeats 4000000 in
theorem xvs_any (x : Sch) (w : World) (hs : x.pr.size ≤ maxLen) :
    Calls Try.prog 16 #[.agg #[.string x.pr, .int .i64 x.it, .int .i64 x.tm, .int .i64 x.tk, .int .i64 x.fl]] w fun e w' => e = .returned (.bool x.ok) ∧ Below w.heap.size w w' := by
  have BX := hid (box1_start (w := w) (A := #[.string x.pr, .int .i64 x.it, .int .i64 x.tm, .int .i64 x.tk, .int .i64 x.fl]) (T := 39) (fz := (0, 0)))
  have HNM := hid (fun W => Lt.rname_any x.pr W hs)
  have HOK := hid (show x.ok = (Lt.nameB x.pr.data.toList && okT x.it && inB x.tm 0 200000 && inB x.tk 1 2000 && inB x.fl 1 1000000) from rfl)
  have HTM : Hid ((decide (0 ≤ x.tm) && decide (x.tm ≤ 200000)) = inB x.tm 0 200000) := rfl
  have HTK : Hid ((decide (1 ≤ x.tk) && decide (x.tk ≤ 2000)) = inB x.tk 1 2000) := rfl
  have HFL : Hid ((decide (1 ≤ x.fl) && decide (x.fl ≤ 1000000)) = inB x.fl 1 1000000) := rfl
  have HIT : Hid ((decide (-50000 ≤ x.it) && decide (x.it ≤ 200000)) = okT x.it) := rfl
  have HOL := hid (show okL [x.it] = okT x.it by simp [okL])
  generalize Sch.ok x = okk at *
  obtain ⟨pr, it, tm, tk, fl⟩ := x
  dsimp only at *
  generalize Lt.nameB pr.data.toList = b0 at *
  generalize okT it = b1 at *
  generalize inB tm 0 200000 = b2 at *
  generalize inB tk 1 2000 = b3 at *
  generalize inB fl 1 1000000 = b4 at *
  clear hs
  cases b0
  · have HE : Hid (okk = false) := by
      refine hid ?_
      rw [HOK.out]
      simp
    go_enter Try.func16, Try.ntmps16
    go_wp2_with fail
    refine (HNM.out _).mono ?_
    rintro e w1 ⟨rfl, rfl⟩
    go_wp2_with fail
    go_ret
    exact ⟨ret_bool HE.out.symm, BX.out.low⟩
  cases b1
  · have HE : Hid (okk = false) := by
      refine hid ?_
      rw [HOK.out]
      simp
    go_enter Try.func16, Try.ntmps16
    go_wp2_with fail
    refine (HNM.out _).mono ?_
    rintro e w1 ⟨rfl, rfl⟩
    go_wp2_with fail
    refine (warm_any _ _).mono ?_
    rintro e w2 ⟨rfl, rfl⟩
    rw [HIT.out]
    go_wp2_with fail
    go_ret
    exact ⟨ret_bool HE.out.symm, BX.out.low⟩
  cases b2
  · have HE : Hid (okk = false) := by
      refine hid ?_
      rw [HOK.out]
      simp
    go_enter Try.func16, Try.ntmps16
    go_wp2_with fail
    refine (HNM.out _).mono ?_
    rintro e w1 ⟨rfl, rfl⟩
    go_wp2_with fail
    refine (warm_any _ _).mono ?_
    rintro e w2 ⟨rfl, rfl⟩
    rw [HIT.out]
    go_wp2_with fail
    refine (x4within_any _ _ _ _).mono ?_
    rintro e w3 ⟨rfl, rfl⟩
    rw [HTM.out]
    go_wp2_with fail
    go_ret
    exact ⟨ret_bool HE.out.symm, BX.out.low⟩
  cases b3
  · have HE : Hid (okk = false) := by
      refine hid ?_
      rw [HOK.out]
      simp
    go_enter Try.func16, Try.ntmps16
    go_wp2_with fail
    refine (HNM.out _).mono ?_
    rintro e w1 ⟨rfl, rfl⟩
    go_wp2_with fail
    refine (warm_any _ _).mono ?_
    rintro e w2 ⟨rfl, rfl⟩
    rw [HIT.out]
    go_wp2_with fail
    refine (x4within_any _ _ _ _).mono ?_
    rintro e w3 ⟨rfl, rfl⟩
    rw [HTM.out]
    go_wp2_with fail
    refine (x4within_any _ _ _ _).mono ?_
    rintro e w4 ⟨rfl, rfl⟩
    rw [HTK.out]
    go_wp2_with fail
    go_ret
    exact ⟨ret_bool HE.out.symm, BX.out.low⟩
  cases b4
  · have HE : Hid (okk = false) := by
      refine hid ?_
      rw [HOK.out]
      simp
    go_enter Try.func16, Try.ntmps16
    go_wp2_with fail
    refine (HNM.out _).mono ?_
    rintro e w1 ⟨rfl, rfl⟩
    go_wp2_with fail
    refine (warm_any _ _).mono ?_
    rintro e w2 ⟨rfl, rfl⟩
    rw [HIT.out]
    go_wp2_with fail
    refine (x4within_any _ _ _ _).mono ?_
    rintro e w3 ⟨rfl, rfl⟩
    rw [HTM.out]
    go_wp2_with fail
    refine (x4within_any _ _ _ _).mono ?_
    rintro e w4 ⟨rfl, rfl⟩
    rw [HTK.out]
    go_wp2_with fail
    refine (x4within_any _ _ _ _).mono ?_
    rintro e w5 ⟨rfl, rfl⟩
    rw [HFL.out]
    go_wp2_with fail
    go_ret
    exact ⟨ret_bool HE.out.symm, BX.out.low⟩
  have HE : Hid (okk = true) := by
    refine hid ?_
    rw [HOK.out]
    simp
  go_enter Try.func16, Try.ntmps16
  go_wp2_with fail
  refine (HNM.out _).mono ?_
  rintro e w1 ⟨rfl, rfl⟩
  go_wp2_with fail
  refine (warm_any _ _).mono ?_
  rintro e w2 ⟨rfl, rfl⟩
  rw [HIT.out]
  go_wp2_with fail
  refine (x4within_any _ _ _ _).mono ?_
  rintro e w3 ⟨rfl, rfl⟩
  rw [HTM.out]
  go_wp2_with fail
  refine (x4within_any _ _ _ _).mono ?_
  rintro e w4 ⟨rfl, rfl⟩
  rw [HTK.out]
  go_wp2_with fail
  refine (x4within_any _ _ _ _).mono ?_
  rintro e w5 ⟨rfl, rfl⟩
  rw [HFL.out]
  go_wp2_with fail
  go_ret
  exact ⟨ret_bool HE.out.symm, BX.out.low⟩
end Go.Proofs.Ytihbjimnjhfpeaa

/- Walks of ValidSchedules of both: contracts. -/
namespace Go.Proofs.Ytihbjimnjhfpeaa
open Go.RowKit Go.Lib

theorem okE_step {l : List Sch} {k : Nat} (hk : k < l.length) (h : l[k].ok = true) (g : ∀ j (hj : j < l.length), j < k → l[j].ok = true) : ∀ j (hj : j < l.length), j < k + 1 → l[j].ok = true := by
  intro j hj h2
  rcases Nat.lt_or_ge j k with h1 | h1
  · exact g j hj h1
  · obtain rfl : j = k := by omega
    exact h
theorem okE_end {l : List Sch} (h64 : ¬ 64 < l.length) (g : ∀ j (hj : j < l.length), l[j].ok = true) : schsB l = true := by
  unfold schsB
  rw [show l.all Sch.ok = true from List.all_eq_true.2 fun x hx => by obtain ⟨j, hj, rfl⟩ := List.getElem_of_mem hx; exact g j hj]
  simp
  omega
theorem okE_bad {l : List Sch} {k : Nat} (hk : k < l.length) (h : l[k].ok = false) : schsB l = false := by
  unfold schsB
  rw [show l.all Sch.ok = false from by
    rw [Bool.eq_false_iff]
    intro e
    rw [List.all_eq_true.1 e _ (List.getElem_mem hk)] at h
    cases h]
  simp
theorem okE_big {l : List Sch} (h : 64 < l.length) : schsB l = false := by
  unfold schsB
  rw [show decide (l.length ≤ 64) = false by simp; omega]
  rfl
set_option maxRecDepth 20000 in
set_option maxHeartbeats 4000000 in
theorem pvschs_any (v : Value) (l : List Sch) (w : World) (hr : RowE w v l) : Calls Try.prog 7 #[v] w fun e w' => e = .returned (.bool (schsB l)) ∧ Below w.heap.size w w' := by
  have HR := hid (fun w1 (g : Below w.heap.size w w1) => hr.keep g)
  have hm := hr.most
  unfold maxLen at hm
  obtain ⟨va, vc, rfl⟩ := hr.shape
  obtain ⟨n, hn⟩ : ∃ n, n = l.length := ⟨_, rfl⟩
  have HN := hid hn
  rw [← hn] at hm HR ⊢
  clear hr hn
  by_cases h5 : 64 < n
  · have HE := hid (okE_big (l := l) (by rw [← HN.out]; exact h5))
    have h5' : (64 : Int) < n := by omega
    clear h5
    go_enter Try.func7, Try.ntmps7
    go_wp2
    go_ret
    exact ⟨ret_bool HE.out.symm, Below.refl _ _⟩
  have h5' : ¬ (64 : Int) < n := by omega
  have H64 := hid h5
  go_enter Try.func7, Try.ntmps7
  go_wp2
  go_loopw [10] (fun t wr => ∃ k : Nat, k ≤ n ∧ t = .int .i64 (k : Int) ∧ Hid (∀ j (hj : j < l.length), j < k → l[j].ok = true) ∧ Hid (Below w.heap.size w wr)) (fun t _ => n - (intOf t).toNat)
  case atStart => exact ⟨0, Nat.zero_le _, rfl, fun j _ h => absurd h (Nat.not_lt_zero j), Below.refl _ _⟩
  case round =>
    obtain ⟨k, hk, rfl, hok, hB⟩ := hrel
    by_cases hlt : k < n
    · have hlt' : (k : Int) < n := by omega
      have hkl : k < l.length := by rw [← HN.out]; exact hlt
      obtain ⟨a', b', o', cap', hv, ha', _, hcell⟩ := HR.out _ hB.out
      injection hv with hv1 hv2 hv3
      subst hv1 hv3
      rcases ha' with h0 | rfl
      · rw [h0] at hkl; simp at hkl
      obtain ⟨c0, c1, c2, c3, c4, c5⟩ := hcell k hkl
      have HST := hid (fun h => okE_step hkl h hok.out)
      have HBD := hid (fun h => okE_bad hkl h)
      have HLT := hid hlt
      have HC := hid (fun W => pvs_any l[k] W c5)
      clear hcell hv2 hlt c5
      generalize l[k]'hkl = x at *
      cases hx : x.ok
      · have HE := hid (HBD.out hx)
        go_wp2_with fail
        refine (HC.out _).mono ?_
        rintro e w2 ⟨rfl, hb⟩
        rw [hx]
        have HB2 := hid (bstep (hB.out.alloc hB.out.size _) (hB.out.alloc hB.out.size _).size hb)
        clear hb hx
        go_wp2_with fail
        go_ret
        exact ⟨ret_bool HE.out.symm, HB2.out⟩
      · have HS := hid (HST.out hx)
        go_wp2_with fail
        refine (HC.out _).mono ?_
        rintro e w2 ⟨rfl, hb⟩
        rw [hx]
        have HB2 := hid (bstep (hB.out.alloc hB.out.size _) (hB.out.alloc hB.out.size _).size hb)
        clear hb hx c0 c1 c2 c3 c4
        go_wp2_with fail
        go_roundw
        case rel => exact ⟨k + 1, HLT.out, by go_num, HS, HB2⟩
        case measure => have := HLT.out; simp [intOf]; omega
    · obtain rfl : k = n := by omega
      have HE := hid (okE_end (l := l) (by rw [← HN.out]; exact H64.out) fun j hj => hok.out j hj (by rw [HN.out]; exact hj))
      clear hok
      go_wp2_with fail
      go_ret
      exact ⟨ret_bool HE.out.symm, hB.out⟩
set_option maxRecDepth 20000 in
set_option maxHeartbeats 4000000 in
theorem xvschs_any (v : Value) (l : List Sch) (w : World) (hr : RowE w v l) : Calls Try.prog 8 #[v] w fun e w' => e = .returned (.bool (schsB l)) ∧ Below w.heap.size w w' := by
  have HR := hid (fun w1 (g : Below w.heap.size w w1) => hr.keep g)
  have hm := hr.most
  unfold maxLen at hm
  obtain ⟨va, vc, rfl⟩ := hr.shape
  obtain ⟨n, hn⟩ : ∃ n, n = l.length := ⟨_, rfl⟩
  have HN := hid hn
  rw [← hn] at hm HR ⊢
  clear hr hn
  by_cases h5 : 64 < n
  · have HE := hid (okE_big (l := l) (by rw [← HN.out]; exact h5))
    have h5' : (64 : Int) < n := by omega
    clear h5
    go_enter Try.func8, Try.ntmps8
    go_wp2
    go_ret
    exact ⟨ret_bool HE.out.symm, Below.refl _ _⟩
  have h5' : ¬ (64 : Int) < n := by omega
  have H64 := hid h5
  go_enter Try.func8, Try.ntmps8
  go_wp2
  go_loopw [3] (fun t wr => ∃ k : Nat, k ≤ n ∧ t = .int .i64 (k : Int) ∧ Hid (∀ j (hj : j < l.length), j < k → l[j].ok = true) ∧ Hid (Below w.heap.size w wr)) (fun t _ => n - (intOf t).toNat)
  case atStart => exact ⟨0, Nat.zero_le _, rfl, fun j _ h => absurd h (Nat.not_lt_zero j), Below.refl _ _⟩
  case round =>
    obtain ⟨k, hk, rfl, hok, hB⟩ := hrel
    by_cases hlt : k < n
    · have hlt' : (k : Int) < n := by omega
      have hkl : k < l.length := by rw [← HN.out]; exact hlt
      obtain ⟨a', b', o', cap', hv, ha', _, hcell⟩ := HR.out _ hB.out
      injection hv with hv1 hv2 hv3
      subst hv1 hv3
      rcases ha' with h0 | rfl
      · rw [h0] at hkl; simp at hkl
      obtain ⟨c0, c1, c2, c3, c4, c5⟩ := hcell k hkl
      have HST := hid (fun h => okE_step hkl h hok.out)
      have HBD := hid (fun h => okE_bad hkl h)
      have HLT := hid hlt
      have HC := hid (fun W => xvs_any l[k] W c5)
      clear hcell hv2 hlt c5
      generalize l[k]'hkl = x at *
      cases hx : x.ok
      · have HE := hid (HBD.out hx)
        go_wp2_with fail
        refine (HC.out _).mono ?_
        rintro e w2 ⟨rfl, hb⟩
        rw [hx]
        have HB2 := hid (bstep hB.out hB.out.size hb)
        clear hb hx
        go_wp2_with fail
        go_ret
        exact ⟨ret_bool HE.out.symm, HB2.out⟩
      · have HS := hid (HST.out hx)
        go_wp2_with fail
        refine (HC.out _).mono ?_
        rintro e w2 ⟨rfl, hb⟩
        rw [hx]
        have HB2 := hid (bstep hB.out hB.out.size hb)
        clear hb hx c0 c1 c2 c3 c4
        go_wp2_with fail
        go_roundw
        case rel => exact ⟨k + 1, HLT.out, by go_num, HS, HB2⟩
        case measure => have := HLT.out; simp [intOf]; omega
    · obtain rfl : k = n := by omega
      have HE := hid (okE_end (l := l) (by rw [← HN.out]; exact H64.out) fun j hj => hok.out j hj (by rw [HN.out]; exact hj))
      clear hok
      go_wp2_with fail
      go_ret
      exact ⟨ret_bool HE.out.symm, hB.out⟩
end Go.Proofs.Ytihbjimnjhfpeaa

/- Walks of fits and of Lookup's early ends: contracts. -/
namespace Go.Proofs.Ytihbjimnjhfpeaa
open Go.RowKit Go.Lib

set_option maxRecDepth 20000 in
set_option maxHeartbeats 2000000 in
theorem fits_any (x : Sch) (i f : Int) (w : World) :
    Calls Try.prog 12 #[.agg #[.string x.pr, .int .i64 x.it, .int .i64 x.tm, .int .i64 x.tk, .int .i64 x.fl], .int .i64 i, .int .i64 f] w fun e w' => e = .returned (.bool (x.fit i f)) ∧ Below w.heap.size w w' := by
  have BX := hid (box1_start (w := w) (A := #[.string x.pr, .int .i64 x.it, .int .i64 x.tm, .int .i64 x.tk, .int .i64 x.fl]) (T := 39) (fz := (0, 0)))
  have HF := hid (show x.fit i f = (decide (x.it ≤ i) && decide (f ≤ x.fl)) from rfl)
  obtain ⟨pr, it, tm, tk, fl⟩ := x
  dsimp only at *
  generalize Sch.fit _ i f = ff at *
  cases h1 : decide (it ≤ i)
  · have HE : Hid (ff = false) := by
      refine hid ?_
      rw [HF.out, h1]; rfl
    go_enter Try.func12, Try.ntmps12
    go_wp2_with fail
    go_ret
    exact ⟨ret_bool HE.out.symm, BX.out.low⟩
  · have HE : Hid (ff = decide (f ≤ fl)) := by
      refine hid ?_
      rw [HF.out, h1]; rfl
    go_enter Try.func12, Try.ntmps12
    go_wp2_with fail
    go_ret
    exact ⟨ret_bool HE.out.symm, BX.out.low⟩
def LkP (V E : Int) (w : World) (e : Ending) (w' : World) : Prop := e = .returned (.tuple #[.int .i64 V, .int .i64 E]) ∧ Below w.heap.size w w'
set_option maxRecDepth 20000 in
set_option maxHeartbeats 4000000 in
theorem plook_bad (v : Value) (l : List Sch) (p : ByteArray) (i f : Int) (w : World) (hr : RowE w v l) (hs : schsB l = false) :
    Calls Try.prog 5 #[v, .string p, .int .i64 i, .int .i64 f] w (LkP 0 1 w) := by
  have HVS := hid (pvschs_any v l w hr)
  rw [hs] at HVS
  obtain ⟨va, vc, rfl⟩ := hr.shape
  clear hr hs
  go_enter Try.func5, Try.ntmps5
  go_wp2_with fail
  refine HVS.out.mono ?_
  rintro e w1 ⟨rfl, hb⟩
  go_wp2_with fail
  go_ret2
  exact ⟨rfl, hb⟩
set_option maxRecDepth 20000 in
set_option maxHeartbeats 4000000 in
theorem plook_rng (v : Value) (l : List Sch) (p : ByteArray) (i f : Int) (w : World) (hr : RowE w v l) (hs : schsB l = true) (hg : (okT i && inB f 0 1000000) = false) :
    Calls Try.prog 5 #[v, .string p, .int .i64 i, .int .i64 f] w (LkP 0 7 w) := by
  have HVS := hid (pvschs_any v l w hr)
  rw [hs] at HVS
  have HOL := hid (show okL [i] = okT i by simp [okL])
  have HFL : Hid ((decide (0 ≤ f) && decide (f ≤ 1000000)) = inB f 0 1000000) := rfl
  obtain ⟨va, vc, rfl⟩ := hr.shape
  generalize okT i = b1 at *
  generalize inB f 0 1000000 = b2 at *
  clear hr hs
  cases b1
  · go_enter Try.func5, Try.ntmps5
    go_wp2_with fail
    refine HVS.out.mono ?_
    rintro e w1 ⟨rfl, hb⟩
    have HB := hid hb
    clear hb
    go_wp2_with fail
    refine (ptemps_any _ _ [i] (one_row i _ (by simp))).mono ?_
    rintro e w2 ⟨rfl, rfl⟩
    rw [HOL.out]
    have HB := hid (HB.out.alloc HB.out.size (.cells #[.int .i64 i] 3))
    go_wp2_with fail
    go_ret2
    exact ⟨rfl, HB.out⟩
  · obtain rfl : b2 = false := by simpa using hg
    go_enter Try.func5, Try.ntmps5
    go_wp2_with fail
    refine HVS.out.mono ?_
    rintro e w1 ⟨rfl, hb⟩
    have HB := hid hb
    clear hb
    go_wp2_with fail
    refine (ptemps_any _ _ [i] (one_row i _ (by simp))).mono ?_
    rintro e w2 ⟨rfl, rfl⟩
    rw [HOL.out]
    have HB := hid (HB.out.alloc HB.out.size (.cells #[.int .i64 i] 3))
    go_wp2_with fail
    refine (pwithin_any _ _ _ _).mono ?_
    rintro e w3 ⟨rfl, rfl⟩
    rw [HFL.out]
    go_wp2_with fail
    go_ret2
    exact ⟨rfl, HB.out⟩
end Go.Proofs.Ytihbjimnjhfpeaa

/- A region that draws its order, whose operations only read, and whose callees read and may make memory of their own: one walk, in the order of the text. No seat's names. -/
namespace Go.Proofs.Ytihbjimnjhfpeaa
open Go.RowKit

/-- A world in which all that lay in w lies as it was. -/
structure LowBy (w : World) where
  W : World
  low : Below w.heap.size w W
instance (w : World) : Inhabited (LowBy w) := ⟨⟨w, Below.refl _ _⟩⟩
section
variable {P : Program}
theorem wp_region_quiet_low {id : Nat} {Q : Exit → Act → World → Prop} {a : Act} {w : World} {l : List Oper} (hm : P.follows .mixedOrders = true) (hB : Region.lexB .any l.toArray = true)
    (h : wpQuiet P l.toArray (fun w' => ∃ p : LowBy w, w' = p.W) (fun a' => ∀ w', (∃ p : LowBy w, w' = p.W) → Q .normal a' w') l a) : (Code.region id l.toArray true).wp P Q a w :=
  wp_region_quiet (C := fun w' => ∃ p : LowBy w, w' = p.W) hm hB ⟨⟨w.drew, (Below.refl _ _).drew⟩, rfl⟩ (by simpa using h)
/-- The list of what is left behind a letter: else what is behind a guard that is not wanted is opened again and again. -/
theorem wp_region_low {id : Nat} {Q : Exit → Act → World → Prop} {a : Act} {w : World} {l : List Oper} (hm : P.follows .mixedOrders = true) (hB : Region.lexB .any l.toArray = true)
    (h : ∀ R, Hid (R = l) → wpQuiet P l.toArray (fun w' => ∃ p : LowBy w, w' = p.W) (fun a' => ∀ w', (∃ p : LowBy w, w' = p.W) → Q .normal a' w') R a) : (Code.region id l.toArray true).wp P Q a w :=
  wp_region_quiet_low hm hB (h l rfl)
theorem low_step {ops : Array Oper} {C : World → Prop} {Q : Act → Prop} {a : Act} {o : Oper} {R rest : List Oper} (hR : Hid (R = o :: rest))
    (h : ∀ R' : List Oper, Hid (R' = rest) → ∀ K : Act → Prop, (∀ a, wpQuiet P ops C Q R' a → K a) → if Region.wanted o (yielded ops a.tmps) then o.quiet P a C K else K (a.put o.dst undef)) : wpQuiet P ops C Q R a := by
  rw [hR.out]
  exact wpQuiet_step (h rest rfl)
theorem low_nil {ops : Array Oper} {C : World → Prop} {Q : Act → Prop} {a : Act} {R : List Oper} (hR : Hid (R = [])) (h : Q a) : wpQuiet P ops C Q R a := by
  rw [hR.out]
  exact wpQuiet_nil h
theorem low_of {f : FuncId} {args : Array Value} {w : World} {p : LowBy w} {v : Value}
    (h : Calls P f args p.W fun e w' => e = .returned v ∧ Below p.W.heap.size p.W w') : Calls P f args p.W fun e w'' => e = .returned v ∧ ∃ q : LowBy w, w'' = q.W :=
  h.mono fun _ w' ⟨he, hb⟩ => ⟨he, ⟨w', bstep p.low p.low.size hb⟩, rfl⟩
theorem low_of_same {f : FuncId} {args : Array Value} {w : World} {p : LowBy w} {v : Value}
    (h : Calls P f args p.W fun e w' => e = .returned v ∧ p.W = w') : Calls P f args p.W fun e w'' => e = .returned v ∧ ∃ q : LowBy w, w'' = q.W :=
  h.mono fun _ _ ⟨he, hb⟩ => ⟨he, p, hb.symm⟩
theorem low_cell {w : World} {b i : Nat} {v : Value} (h : w.cell? ⟨b, i, none⟩ = some v) (p : LowBy w) : p.W.cell? ⟨b, i, none⟩ = some v := keep_cell p.low h
end
end Go.Proofs.Ytihbjimnjhfpeaa
