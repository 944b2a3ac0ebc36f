/- Walk of CodeDays. -/
import Derived.Test.YtlnfebginkmbhaaDoorDx
import Derived.Test.YtlnfebginkmbhaaDoorDu
namespace Go.Proofs.YtlnfebginkmbhaaDoor
open Go.RowKit

theorem month_ex0 (y L : Int) : ∀ K : Nat, L < dB y (1 + K) → 0 ≤ L → ∃ k : Nat, k < K ∧ dB y (1 + k) ≤ L ∧ L < dB y (1 + k + 1)
  | 0, h, h0 => by
    have e : dB y (1 + ((0 : Nat) : Int)) = 0 := dB_1 y
    omega
  | K + 1, h, h0 => by
    by_cases g : L < dB y (1 + K)
    · obtain ⟨k, h1, h2⟩ := month_ex0 y L K g h0
      exact ⟨k, by omega, h2⟩
    · refine ⟨K, by omega, by omega, ?_⟩
      have e : (1 + ((K + 1 : Nat) : Int)) = 1 + K + 1 := by omega
      rw [← e]; exact h
theorem date_ex {n : Int} (h0 : 0 ≤ n) (h1 : n ≤ 73048) : ∃ y m d, IsDate n y m d := by
  obtain ⟨y, hy⟩ := year_ex h0 h1
  have hs := soY_succ hy.1
  obtain ⟨k, hk, h2, h3⟩ := month_ex0 y (n - soY y) 12 (by show n - soY y < dB y 13; rw [dB_13]; have := hy.2.2.2; omega) (by have := hy.2.2.1; omega)
  have hd := dB_succ (y := y) (m := 1 + (k : Int)) (by omega) (by omega)
  exact ⟨y, 1 + k, n - soY y - dB y (1 + k) + 1, hy, by omega, by omega, by omega, by omega, by omega⟩
theorem date_back {n y m d : Int} (h : IsDate n y m d) : dateB y m d = true ∧ dayN y m d = n := by
  obtain ⟨⟨y1, y2, _, _⟩, m1, m2, d1, d2, e⟩ := h
  refine ⟨?_, by unfold dayN; omega⟩
  rw [dateB_eq]
  simp only [Bool.and_eq_true, inB_iff]
  exact ⟨⟨⟨y1, y2⟩, ⟨m1, m2⟩⟩, ⟨d1, d2⟩⟩
theorem dayT_form (y m d : Int) : ∃ n e : Int, (if dateB y m d = true then Value.tuple #[.int .i64 (dayN y m d), .int .i64 0] else .tuple #[.int .i64 0, .int .i64 7]) = .tuple #[.int .i64 n, .int .i64 e] := by
  split
  · exact ⟨_, _, rfl⟩
  · exact ⟨_, _, rfl⟩
/-- Three boxes of dates. -/
def D3 (w W : World) (b5 b7 : Nat) (x y z p q r s t u : Int) : Prop := Bx w W w.heap.size 23 #[.int .i64 x, .int .i64 y, .int .i64 z] ∧ Bx w W b5 23 #[.int .i64 p, .int .i64 q, .int .i64 r] ∧ Bx w W b7 23 #[.int .i64 s, .int .i64 t, .int .i64 u]
theorem D3.keep {w W w2 : World} {b5 b7 : Nat} {x y z p q r s t u : Int} (h : D3 w W b5 b7 x y z p q r s t u) (hb : Below W.heap.size W w2) : D3 w w2 b5 b7 x y z p q r s t u := ⟨h.1.keep hb, h.2.1.keep hb, h.2.2.keep hb⟩
theorem D3.drw {w W : World} {b5 b7 : Nat} {x y z p q r s t u : Int} (h : D3 w W b5 b7 x y z p q r s t u) : D3 w W.drew b5 b7 x y z p q r s t u := ⟨h.1.dr1, h.2.1.dr1, h.2.2.dr1⟩
def S9 (w W : World) (b5 b7 : Nat) (x y z p q r s t u : Int) : Prop :=
  W.cell? ⟨w.heap.size, 0, none⟩ = some (.int .i64 x) ∧ W.cell? ⟨w.heap.size, 1, none⟩ = some (.int .i64 y) ∧ W.cell? ⟨w.heap.size, 2, none⟩ = some (.int .i64 z) ∧
  W.cell? ⟨b5, 0, none⟩ = some (.int .i64 p) ∧ W.cell? ⟨b5, 1, none⟩ = some (.int .i64 q) ∧ W.cell? ⟨b5, 2, none⟩ = some (.int .i64 r) ∧
  W.cell? ⟨b7, 0, none⟩ = some (.int .i64 s) ∧ W.cell? ⟨b7, 1, none⟩ = some (.int .i64 t) ∧ W.cell? ⟨b7, 2, none⟩ = some (.int .i64 u) ∧ Hid (D3 w W b5 b7 x y z p q r s t u)
theorem D3.all {w W : World} {b5 b7 : Nat} {x y z p q r s t u : Int} (h : D3 w W b5 b7 x y z p q r s t u) : S9 w W b5 b7 x y z p q r s t u :=
  ⟨h.1.cell 0, h.1.cell 1, h.1.cell 2, h.2.1.cell 0, h.2.1.cell 1, h.2.1.cell 2, h.2.2.cell 0, h.2.2.cell 1, h.2.2.cell 2, hid h⟩
theorem S9.of {w W : World} {b5 b7 : Nat} {x y z p q r s t u : Int} (h : S9 w W b5 b7 x y z p q r s t u) : D3 w W b5 b7 x y z p q r s t u := h.2.2.2.2.2.2.2.2.2.out
set_option maxRecDepth 100000 in
set_option maxHeartbeats 8000000 in
theorem days_walk (n y m d : Int) (w : World) (hw : Wts w) :
    Calls Tryd.prog 3 #[.int .i64 n, .agg #[.int .i64 y, .int .i64 m, .int .i64 d]] w fun e w' => e = .returned (.bool true) ∧ Below w.heap.size w w' := by
  have HW := hid hw
  have HX := hid (bx_new w 23 #[.int .i64 y, .int .i64 m, .int .i64 d])
  obtain ⟨N, E0, hNE⟩ := dayT_form y m d
  have HNE := hid hNE
  obtain ⟨DB, hDB⟩ : ∃ b, b = dateB y m d := ⟨_, rfl⟩
  have HDB := hid hDB
  obtain ⟨LB, hLB⟩ : ∃ b, b = leapB y := ⟨_, rfl⟩
  have HLB := hid hLB
  clear hw hNE hDB hLB
  obtain ⟨ok, hok⟩ : ∃ b, b = inB n 0 73048 := ⟨_, rfl⟩
  have HOK := hid hok
  obtain ⟨a1, a2, a3, ea, HA, HB, HO, HP, HQ⟩ : ∃ a1 a2 a3 ea : Int,
      Hid (∀ W, Calls Tryd.prog 9 #[.int .i64 n] W fun e w' => e = .returned (.tuple #[.agg #[.int .i64 a1, .int .i64 a2, .int .i64 a3], .int .i64 ea]) ∧ Below W.heap.size W w') ∧
      Hid (∀ W, Calls Tryd.prog 10 #[.int .i64 n] W fun e w' => e = .returned (.tuple #[.agg #[.int .i64 a1, .int .i64 a2, .int .i64 a3], .int .i64 ea]) ∧ Below W.heap.size W w') ∧
      Hid (∃ o1 o2 : Int, (∀ W, Calls Tryd.prog 19 #[.int .i64 n] W fun e w' => e = .returned (.tuple #[.int .i64 o1, .int .i64 o2]) ∧ w' = W) ∧ (∀ W, Calls Tryd.prog 20 #[.int .i64 n] W fun e w' => e = .returned (.tuple #[.int .i64 o1, .int .i64 o2]) ∧ Below W.heap.size W w')) ∧
      Hid (∃ o1 o2 : Int, (if inB n 0 73048 = true then Value.tuple #[.int .i64 ((5 + n) % 7), .int .i64 0] else .tuple #[.int .i64 0, .int .i64 7]) = .tuple #[.int .i64 o1, .int .i64 o2]) ∧
      Hid (ok = true → dateB a1 a2 a3 = true ∧ dayN a1 a2 a3 = n) := by
    cases hv : inB n 0 73048
    · exact ⟨0, 0, 0, 7, fun W => cdate_bad n W hv, fun W => xdate_bad n W hv, ⟨0, 7, fun W => cofyear_bad n W hv, fun W => xofyear_bad n W hv⟩, ⟨_, _, rfl⟩, fun h => by rw [hok, hv] at h; cases h⟩
    · obtain ⟨h0, h1⟩ := inB_iff.1 hv
      obtain ⟨yy, mm, dd, hd⟩ := date_ex h0 h1
      exact ⟨yy, mm, dd, 0, fun W => cdate_ok n yy mm dd W hd, fun W => xdate_ok n yy mm dd W hd, ⟨n - soY yy, 0, fun W => cofyear_ok n yy W hd.1, fun W => xofyear_ok n yy mm dd W hd⟩, ⟨_, _, rfl⟩, fun _ => date_back hd⟩
  obtain ⟨o1, o2, ho1, ho2⟩ := HO.out
  have HO1 := hid ho1
  have HO2 := hid ho2
  obtain ⟨k1, k2, hk⟩ := HP.out
  have HK := hid hk
  clear ho1 ho2 hk HO HP hok
  go_enter Tryd.func3, Tryd.ntmps3
  go_wp2_with fail
  refine (awake6_any _ (HW.out.keep HX.out.low)).mono ?_
  rintro e w1 ⟨rfl, hb⟩
  have HX1 := hid (HX.out.keep hb)
  clear hb HX
  go_wp2_with fail
  refine (HA.out _).mono ?_
  rintro e w2 ⟨rfl, hb⟩
  have HX2 := HX1.out.keep hb
  have HX3 := hid (HX2.keep ((Below.refl w2.heap.size w2).alloc (Nat.le_refl _) (.cells #[.int .i64 a1, .int .i64 a2, .int .i64 a3] 23)))
  have HY3 := hid (show Bx w (w2.alloc (.cells #[.int .i64 a1, .int .i64 a2, .int .i64 a3] 23)) w2.heap.size 23 #[.int .i64 a1, .int .i64 a2, .int .i64 a3] from ⟨heap_alloc_new _ _, HX2.low.size, HX3.out.low⟩)
  clear hb HX2 HX1
  go_wp2_with fail
  refine (HB.out _).mono ?_
  rintro e w3 ⟨rfl, hb⟩
  have HX4 := HX3.out.keep hb
  have HY4 := HY3.out.keep hb
  have hal := (Below.refl w3.heap.size w3).alloc (Nat.le_refl _) (.cells #[.int .i64 a1, .int .i64 a2, .int .i64 a3] 23)
  have HD := hid (show D3 w (w3.alloc (.cells #[.int .i64 a1, .int .i64 a2, .int .i64 a3] 23)) w2.heap.size w3.heap.size y m d a1 a2 a3 a1 a2 a3 from ⟨HX4.keep hal, HY4.keep hal, ⟨heap_alloc_new _ _, HX4.low.size, (HX4.keep hal).low⟩⟩)
  clear hb HX4 HY4 hal HX3 HY3
  obtain ⟨c0, c1, c2⟩ := HD.out.1.three
  go_wp2_with fail
  refine (cdayof_any y m d _).mono ?_
  rintro e w4 ⟨rfl, hb⟩
  rw [HNE.out]
  have HD := hid (HD.out.keep hb)
  obtain ⟨c0, c1, c2⟩ := HD.out.1.three
  clear hb
  go_wp2_with fail
  refine (xdayof_any y m d _).mono ?_
  rintro e w5 ⟨rfl, hb⟩
  rw [HNE.out]
  have HD := hid (HD.out.keep hb)
  clear hb
  go_wp2_with fail
  have HL5 := bx_lt HD.out.1
  try simp only [List.append_eq, List.cons_append, List.nil_append]
  go_region_held3 (fun w' => w'.cell? ⟨w.heap.size, 0, none⟩ = some (.int .i64 y) ∧ w'.cell? ⟨w.heap.size, 1, none⟩ = some (.int .i64 m) ∧ w'.cell? ⟨w.heap.size, 2, none⟩ = some (.int .i64 d) ∧
      w'.cell? ⟨w2.heap.size, 0, none⟩ = some (.int .i64 a1) ∧ w'.cell? ⟨w2.heap.size, 1, none⟩ = some (.int .i64 a2) ∧ w'.cell? ⟨w2.heap.size, 2, none⟩ = some (.int .i64 a3) ∧
      w'.cell? ⟨w3.heap.size, 0, none⟩ = some (.int .i64 a1) ∧ w'.cell? ⟨w3.heap.size, 1, none⟩ = some (.int .i64 a2) ∧ w'.cell? ⟨w3.heap.size, 2, none⟩ = some (.int .i64 a3) ∧ Hid (D3 w w' w2.heap.size w3.heap.size y m d a1 a2 a3 a1 a2 a3))
    (first | exact HD.out.drw.all | exact ((S9.of (by assumption)).keep (by assumption)).all | assumption)
    (first
    | (go_at_call 13; refine (cvdate_any _ _ _ _).mono ?_; rintro e wk ⟨rfl, hb⟩; rw [← HDB.out]; have HDD := hid ((S9.of (by assumption)).keep hb))
    | (go_at_call 14; refine (xvdate_any _ _ _ _).mono ?_; rintro e wk ⟨rfl, hb⟩; rw [← HDB.out]; have HDD := hid ((S9.of (by assumption)).keep hb))
    | (go_at_call 15; refine (cleap_any _ _).mono ?_; rintro e wk ⟨rfl, rfl⟩; rw [← HLB.out])
    | (go_at_call 16; refine (xleap_any _ _).mono ?_; rintro e wk ⟨rfl, rfl⟩; rw [← HLB.out]))
  go_wp2_with (first
    | (go_at_call 17; refine (cweekday_any _ _).mono ?_; rintro e wk ⟨rfl, rfl⟩; rw [HK.out])
    | (go_at_call 18; refine (xweekday_any _ _).mono ?_; rintro e wk ⟨rfl, rfl⟩; rw [HK.out])
    | (go_at_call 19; refine (HO1.out _).mono ?_; rintro e wk ⟨rfl, rfl⟩))
  refine (HO2.out _).mono ?_
  rintro e w7 ⟨rfl, hb⟩
  have HDE := hid (HDD.out.keep hb)
  clear hb
  cases ok
  · go_wp2_with (go_at_call 21; refine (xday_any _ _).mono ?_; rintro e wk ⟨rfl, rfl⟩; rw [← HOK.out])
    go_ret
    exact ⟨rfl, HDE.out.1.low⟩
  · obtain ⟨q1, q2⟩ := HQ.out rfl
    have Q1 := hid q1
    have Q2 := hid q2
    obtain ⟨e0, e1, e2⟩ := HDE.out.2.1.three
    clear q1 q2
    go_wp2_with (go_at_call 21; refine (xday_any _ _).mono ?_; rintro e wk ⟨rfl, rfl⟩; rw [← HOK.out])
    refine (cdayof_any a1 a2 a3 _).mono ?_
    rintro e w8 ⟨rfl, hb⟩
    rw [if_pos Q1.out, Q2.out]
    have HDF := hid (HDE.out.keep hb)
    clear hb
    go_wp2_with fail
    go_ret
    exact ⟨rfl, HDF.out.1.low⟩
end Go.Proofs.YtlnfebginkmbhaaDoor
