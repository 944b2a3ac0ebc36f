/- Walk of the reference's Proved: contract. -/
import Derived.Test.YtedfajokiblfhaaGreatPek
namespace Go.Proofs.YtedfajokiblfhaaGreat
open Go.RowKit Go.Lib

theorem cookB_le {t bath n cold cooling : Int} (h : (((okT t && okT bath) && okT cold) && tick1 cooling) = true) : cookB bath n cold cooling = (decide (0 ≤ n) && decide (n ≤ 2000 - cooling)) := by
  rw [cookB_eq]
  simp only [Bool.and_eq_true] at h
  obtain ⟨⟨⟨_, h2⟩, h3⟩, h4⟩ := h
  rw [h2, h3, h4]
  unfold tick1 at h4 ⊢
  simp only [Bool.and_eq_true, decide_eq_true_eq] at h4
  rw [Bool.eq_iff_iff]
  simp only [Bool.and_eq_true, decide_eq_true_eq, Bool.not_eq_true', decide_eq_false_iff_not, true_and, and_true]
  omega
theorem sterP_err {r l a b k a2 b2 : Int} {q : Kl} {t bath cold cooling : Int} (h : leE (canB r l a b k a2 b2) q.vB t bath cold cooling ≠ 0) (n : Int) : sterP r l a b k a2 b2 q t bath cold cooling n = false := by
  unfold sterP sterO
  unfold leE at h
  split at h
  · rename_i h1
    rw [chk4_no (by rw [Bool.and_comm]; exact h1)]
    simp
  · split at h
    · rename_i h1 h2
      by_cases ho : okT t = true
      · have hc : cookB bath n cold cooling = false := by
          rw [cookB_eq]
          cases hb : okT bath
          · rfl
          cases hk : okT cold
          · rfl
          rw [ho, hb, hk] at h2
          simp only [Bool.true_and] at h2
          rw [h2]
          simp
        rw [hc]; rfl
      · rw [chk4_far (by rw [Bool.and_comm]; simpa using h1) (by simp at ho; rw [ho]; rfl)]
        simp
    · exact absurd rfl h
theorem leE_zero {vc vk : Bool} {t bath cold cooling : Int} (h : leE vc vk t bath cold cooling = 0) : (((okT t && okT bath) && okT cold) && tick1 cooling) = true := by
  unfold leE at h
  split at h
  · cases h
  · split at h
    · cases h
    · rename_i h2
      cases hx : (((okT t && okT bath) && okT cold) && tick1 cooling) with
      | true => rfl
      | false => exact absurd hx h2
set_option maxRecDepth 20000 in
set_option maxHeartbeats 4000000 in
theorem xproved_any (r l a b k a2 b2 : Int) (w : World) (q : Kl) (t bath cold cooling n : Int) (hs : q.s.size ≤ maxLen) :
    Calls Tryz.prog 27 #[.agg #[.int .i64 r, .int .i64 l, .int .i64 a, .int .i64 b, .int .i64 k, .int .i64 a2, .int .i64 b2], .agg #[.string q.s, .int .i64 q.r, .int .i64 q.z, .int .i64 q.d, .int .i64 q.g], .int .i64 t, .int .i64 bath, .int .i64 cold, .int .i64 cooling, .int .i64 n] w fun e w' => e = .returned (.bool (provO (sterP r l a b k a2 b2 q t bath cold cooling) n)) ∧ Below w.heap.size w w' := by
  have HX := hid (box2_start (w := w) (A := #[.int .i64 r, .int .i64 l, .int .i64 a, .int .i64 b, .int .i64 k, .int .i64 a2, .int .i64 b2]) (B := #[.string q.s, .int .i64 q.r, .int .i64 q.z, .int .i64 q.d, .int .i64 q.g]) (T := 23) (T' := 25) (fz := (0, 0)) (fz' := (0, 0)))
  have HE := hid (fun W => xlerr_any r l a b k a2 b2 W q t bath cold cooling hs)
  have HEN := hid (fun n W => xenough_any r l a b k a2 b2 W q t bath cold cooling n hs)
  have HER := hid (fun h n => sterP_err (r := r) (l := l) (a := a) (b := b) (k := k) (a2 := a2) (b2 := b2) (q := q) (t := t) (bath := bath) (cold := cold) (cooling := cooling) h n)
  have HZ := hid (fun h => leE_zero (vc := canB r l a b k a2 b2) (vk := q.vB) (t := t) (bath := bath) (cold := cold) (cooling := cooling) h)
  have HSP := hid (fun n => show sterP r l a b k a2 b2 q t bath cold cooling n = (cookB bath n cold cooling && sterO q (lowO (sumsO r l a b k a2 b2 q t (cookL bath n cold cooling))) (chk4 (canB r l a b k a2 b2) q.vB t (cookL bath n cold cooling))) from rfl)
  generalize leE (canB r l a b k a2 b2) q.vB t bath cold cooling = le at *
  obtain ⟨en, hen⟩ : ∃ en : Int → Bool, en = fun n => sterO q (lowO (sumsO r l a b k a2 b2 q t (cookL bath n cold cooling))) (chk4 (canB r l a b k a2 b2) q.vB t (cookL bath n cold cooling)) := ⟨_, rfl⟩
  have HEN : Hid (∀ (n : Int) (W : World), Calls Tryz.prog 59 #[.agg #[.int .i64 r, .int .i64 l, .int .i64 a, .int .i64 b, .int .i64 k, .int .i64 a2, .int .i64 b2], .agg #[.string q.s, .int .i64 q.r, .int .i64 q.z, .int .i64 q.d, .int .i64 q.g], .int .i64 t, .int .i64 bath, .int .i64 cold, .int .i64 cooling, .int .i64 n] W fun e w' => e = .returned (.bool (en n)) ∧ Below W.heap.size W w') := by rw [hen]; exact HEN
  have HSP : Hid (∀ n, sterP r l a b k a2 b2 q t bath cold cooling n = (cookB bath n cold cooling && en n)) := by rw [hen]; exact HSP
  clear hen
  generalize sterP r l a b k a2 b2 q t bath cold cooling = T at *
  clear hs
  go_enter Tryz.func27, Tryz.ntmps27
  go_wp2_with fail
  refine (HE.out _).mono ?_
  rintro e w1 ⟨rfl, hb⟩
  have HX := hid (HX.out.keep hb)
  clear hb
  by_cases hle : le = 0
  case neg =>
    have HF := hid (show provO T n = false by unfold provO; rw [HER.out hle n]; rfl)
    have hl1 : (le != 0) = true := by simpa using hle
    clear hle
    go_wp2_with fail
    refine bodyPost_ret (v := .bool false) (by simp [results, Tryz.results27, go_sem]) rfl ⟨by rw [HF.out], HX.out.low⟩
  have hz := HZ.out hle
  have hcool : 0 ≤ cooling ∧ cooling ≤ 2000 := by
    simp only [Bool.and_eq_true, tick1, decide_eq_true_eq] at hz
    exact hz.2
  have HCB := hid (fun n => cookB_le (t := t) (bath := bath) (n := n) (cold := cold) (cooling := cooling) hz)
  have HIN := hid (fun W => xin_any n 0 (2000 - cooling) W)
  obtain ⟨hc1, hc2⟩ := hcool
  subst hle
  clear hz HZ HER
  go_wp2_with fail
  refine (HIN.out _).mono ?_
  rintro e w2 ⟨rfl, rfl⟩
  cases hin : (decide (0 ≤ n) && decide (n ≤ 2000 - cooling))
  · have HF := hid (show provO T n = false by unfold provO; rw [HSP.out n, HCB.out n, hin]; rfl)
    go_wp2_with fail
    refine bodyPost_ret (v := .bool false) (by simp [results, Tryz.results27, go_sem]) rfl ⟨by rw [HF.out], HX.out.low⟩
  have hn : 0 ≤ n ∧ n ≤ 2000 - cooling := by simpa using hin
  obtain ⟨hn1, hn2⟩ := hn
  have HTN := hid (show T n = en n by rw [HSP.out n, HCB.out n, hin]; rfl)
  have HTM := hid (show n ≠ 0 → T (n - 1) = en (n - 1) from fun h => by rw [HSP.out (n - 1), HCB.out (n - 1), show (decide (0 ≤ n - 1) && decide (n - 1 ≤ 2000 - cooling)) = true by simp; omega]; rfl)
  clear hin
  have t0 := HX.out.fst 0; have t1 := HX.out.fst 1; have t2 := HX.out.fst 2; have t3 := HX.out.fst 3; have t4 := HX.out.fst 4; have t5 := HX.out.fst 5; have t6 := HX.out.fst 6
  have x0 := HX.out.snd 0; have x1 := HX.out.snd 1; have x2 := HX.out.snd 2; have x3 := HX.out.snd 3; have x4 := HX.out.snd 4
  simp only [List.getElem?_toArray, List.getElem?_cons_zero, List.getElem?_cons_succ] at t0 t1 t2 t3 t4 t5 t6 x0 x1 x2 x3 x4
  go_wp2_with fail
  refine (HEN.out n _).mono ?_
  rintro e w3 ⟨rfl, hb⟩
  have HX := hid (HX.out.keep hb)
  clear hb t0 t1 t2 t3 t4 t5 t6 x0 x1 x2 x3 x4
  cases hen : en n
  · have HF := hid (show provO T n = false by unfold provO; rw [HTN.out, hen]; rfl)
    go_wp2_with fail
    refine bodyPost_ret (v := .bool false) (by simp [results, Tryz.results27, go_sem]) rfl ⟨by rw [HF.out], HX.out.low⟩
  by_cases h0 : n = 0
  · have HF := hid (show provO T n = true by unfold provO; rw [HTN.out, hen, decide_eq_true h0]; rfl)
    subst h0
    go_wp2_with fail
    refine bodyPost_ret (v := .bool true) (by simp [results, Tryz.results27, go_sem]) rfl ⟨by rw [HF.out], HX.out.low⟩
  · have HF := hid (show provO T n = !en (n - 1) by unfold provO; rw [HTN.out, hen, decide_eq_false h0, HTM.out h0]; rfl)
    have t0 := HX.out.fst 0; have t1 := HX.out.fst 1; have t2 := HX.out.fst 2; have t3 := HX.out.fst 3; have t4 := HX.out.fst 4; have t5 := HX.out.fst 5; have t6 := HX.out.fst 6
    have x0 := HX.out.snd 0; have x1 := HX.out.snd 1; have x2 := HX.out.snd 2; have x3 := HX.out.snd 3; have x4 := HX.out.snd 4
    simp only [List.getElem?_toArray, List.getElem?_cons_zero, List.getElem?_cons_succ] at t0 t1 t2 t3 t4 t5 t6 x0 x1 x2 x3 x4
    go_wp2_with fail
    refine (HEN.out (n - 1) _).mono ?_
    rintro e w4 ⟨rfl, hb⟩
    have HX := hid (HX.out.keep hb)
    clear hb t0 t1 t2 t3 t4 t5 t6 x0 x1 x2 x3 x4
    go_wp2_with fail
    refine bodyPost_ret (v := .bool (!en (n - 1))) (by simp [results, Tryz.results27, go_sem, h0]) rfl ⟨by rw [HF.out], HX.out.low⟩
end Go.Proofs.YtedfajokiblfhaaGreat
