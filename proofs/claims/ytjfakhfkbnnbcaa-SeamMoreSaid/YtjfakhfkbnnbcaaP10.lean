/- Texts of this seat, one behind the other. -/
import Derived.Test.YtjfakhfkbnnbcaaZp
import Derived.Test.YtjfakhfkbnnbcaaZj
/- Plain facts of Overdue: its pairs' ticks, and the heads' stretches as those of the reference. -/
namespace Go.Proofs.Ytjfakhfkbnnbcaa
open Go.RowKit Go.Shelf

theorem prS_in (h : Int) (L : List Ck) : ∀ (l : List Ck) (s : List (Ck × Ck) × Ck), (∀ c ∈ l, c ∈ L) → (∀ p ∈ s.1, (p.1 = ckLong h ∨ p.1 ∈ L) ∧ p.2 ∈ L) → (s.2 = ckLong h ∨ s.2 ∈ L) →
    (∀ p ∈ (l.foldl (prS h) s).1, (p.1 = ckLong h ∨ p.1 ∈ L) ∧ p.2 ∈ L) ∧ ((l.foldl (prS h) s).2 = ckLong h ∨ (l.foldl (prS h) s).2 ∈ L)
  | [], s, _, h1, h2 => ⟨h1, h2⟩
  | c :: l, s, hl, h1, h2 => by
    rw [List.foldl_cons]
    have hc : c ∈ L := hl c List.mem_cons_self
    refine prS_in h L l _ (fun d hd => hl d (List.mem_cons_of_mem _ hd)) ?_ ?_
    · unfold prS
      by_cases g : c.hd = h
      · rw [if_pos g]
        intro p hp
        rcases List.mem_append.1 hp with hp | hp
        · exact h1 p hp
        · obtain rfl : p = (s.2, c) := by simpa using hp
          exact ⟨h2, hc⟩
      · rw [if_neg g]; exact h1
    · unfold prS
      by_cases g : c.hd = h
      · rw [if_pos g]; exact .inr hc
      · rw [if_neg g]; exact h2
/-- The checks of a pair are some of the head's, or those that stand for what is missing. -/
theorem prL_in {h : Int} {l : List Ck} {p : Ck × Ck} (hp : p ∈ prL h l) : (p.1 = ckLong h ∨ p.1 ∈ l) ∧ (p.2 = ckNever h ∨ p.2 ∈ l) := by
  obtain ⟨i1, i2⟩ := prS_in h l l ([], ckLong h) (fun _ h => h) (fun p hp => by cases hp) (.inl rfl)
  rcases List.mem_append.1 hp with hp | hp
  · have := i1 p hp
    exact ⟨this.1, .inr this.2⟩
  · obtain rfl : p = ((prF h l).2, ckNever h) := by simpa using hp
    exact ⟨i2, .inl rfl⟩
theorem cks_ticks {G : Sh → Bool} {l : List Sh} (h : shsB l = true) {c : Ck} (hc : c ∈ cksL G l) : 0 ≤ c.tk ∧ c.tk ≤ 100000000 := by
  unfold cksL at hc
  obtain ⟨x, hx, rfl⟩ := List.mem_map.1 hc
  obtain ⟨k, hk, rfl⟩ := List.mem_iff_getElem.1 hx
  exact shs_ticks h k hk
theorem pr_ticks {G : Sh → Bool} {l : List Sh} (h : shsB l = true) {hd : Int} {p : Ck × Ck} (hp : p ∈ prL hd (cksL G l)) : (-100000000 ≤ p.1.tk ∧ p.1.tk ≤ 100000001) ∧ (-100000000 ≤ p.2.tk ∧ p.2.tk ≤ 100000001) := by
  obtain ⟨h1, h2⟩ := prL_in hp
  refine ⟨?_, ?_⟩
  · rcases h1 with h1 | h1
    · rw [h1]; exact ⟨Int.le_refl _, by show (-100000000 : Int) ≤ 100000001; omega⟩
    · have := cks_ticks h h1; omega
  · rcases h2 with h2 | h2
    · rw [h2]; exact ⟨by show (-100000000 : Int) ≤ 100000001; omega, Int.le_refl _⟩
    · have := cks_ticks h h2; omega
theorem allT_gaps (ev b E : Int) (hb : 0 ≤ b) (he : ev ≤ 100000000) (hE : E ≤ 100000000) (l : List Sh) : ∀ n : Nat, allT (ovF ev) b E (cksL (fun _ => true) l) (upL n) = gapsN ev b E l n
  | 0 => rfl
  | n + 1 => by
    rw [upL_succ]
    have ih := allT_gaps ev b E hb he hE l n
    unfold allT at ih ⊢
    rw [List.flatMap_append, ih]
    simp only [gapsN, List.flatMap_cons, List.flatMap_nil, List.append_nil]
    rw [gap_tell _ _ _ _ hb he hE]
end Go.Proofs.Ytjfakhfkbnnbcaa

/- Walk of Overdue of the code: contract. -/
namespace Go.Proofs.Ytjfakhfkbnnbcaa
open Go.RowKit Go.Shelf

theorem enter_at {F : Nat} {fn : Func} (hf : Try.prog.funcs[F]? = some fn) (hn : (fn.name == "runtime.NumGoroutine") = false) (hb : fn.body.isNone = false) (args : Array Value) (W : World) : Sem.run Try.prog (callFunc F args) W = .ok (.enter F args) W := by
  have hn' : ¬ fn.name = "runtime.NumGoroutine" := by simpa using hn
  have hb' : ¬ fn.body = none := fun h => by rw [h] at hb; cases hb
  simp [callFunc, go_sem, hf, hn', hb']
theorem clo_cell {w : World} {a b : Value} {T : TypeId} {n : Nat} (h : w.heap.size = n) : (w.alloc (.cells #[a, b] T)).cell? ⟨n, 0, none⟩ = some a ∧ (w.alloc (.cells #[a, b] T)).cell? ⟨n, 1, none⟩ = some b := by
  subst h; exact ⟨cell_alloc_new w _ _ _ 0, cell_alloc_new w _ _ _ 1⟩
set_option maxRecDepth 20000 in
set_option maxHeartbeats 8000000 in
theorem overdue_any (v : Value) (l : List Sh) (hd ev b E : Int) (w : World) (hr : RowH w v l) (hl : l.length ≤ 200) : Calls Try.prog 20 #[v, .int .i64 hd, .int .i64 ev, .int .i64 b, .int .i64 E] w (OvP l hd ev b E w) := by
  have HB0 := hid ((Below.refl w.heap.size w).alloc (Nat.le_refl _) (.cells #[.int .i64 ev] 3))
  have HE0 := hid (cell_alloc_new w #[.int .i64 ev] 3 (0, 0) 0)
  obtain ⟨A, hA⟩ : ∃ A, shsB l = A := ⟨_, rfl⟩
  obtain ⟨B, hB⟩ : ∃ B, inB hd 1 12 = B := ⟨_, rfl⟩
  obtain ⟨C, hC⟩ : ∃ C, ranB b E = C := ⟨_, rfl⟩
  obtain ⟨D, hD⟩ : ∃ D, inB ev 1 100000000 = D := ⟨_, rfl⟩
  have HV := hid (show ovC l hd ev b E = if A then (if (B && C) && D then 0 else 7) else 1 by rw [← hA, ← hB, ← hC, ← hD]; rfl)
  have HR := hid (fun w1 (g : Below w.heap.size w w1) => hr.keep g)
  have HCS := hid (fun w1 (g : Below w.heap.size w w1) => ksheets_any v l w1 (hr.keep g))
  have HCH := hid (fun w1 => khead_any hd w1)
  have HCR := hid (fun w1 => ran_any b E w1)
  have HCW := hid (fun w1 => kwithin_any ev 1 100000000 w1)
  rw [hA] at HCS
  rw [hB] at HCH
  rw [hC] at HCR
  rw [hD] at HCW
  clear hr
  cases A
  · clear hA hB hC hD
    go_enter Try.func20, Try.ntmps20
    go_wp2_with fail
    refine (HCS.out _ HB0.out).mono ?_
    rintro e w1 ⟨rfl, hb⟩
    have HB1 := hid (bstep HB0.out HB0.out.size hb)
    clear hb
    go_wp2_with fail
    refine bodyPost_ret (v := .tuple #[.slice none 0 0, .int .i64 1]) (by simp [results, Try.results20, go_sem]) rfl ?_
    exact ov_no (by rw [HV.out]; rfl) (by decide) HB1.out
  cases B
  · clear hA hB hC hD
    go_enter Try.func20, Try.ntmps20
    go_wp2_with fail
    refine (HCS.out _ HB0.out).mono ?_
    rintro e w1 ⟨rfl, hb⟩
    have HB1 := hid (bstep HB0.out HB0.out.size hb)
    have he1 := keep_cell hb HE0.out
    clear hb
    go_wp2_with fail
    refine (HCH.out _).mono ?_
    rintro e w2 ⟨rfl, rfl⟩
    go_wp2_with fail
    refine bodyPost_ret (v := .tuple #[.slice none 0 0, .int .i64 7]) (by simp [results, Try.results20, go_sem]) rfl ?_
    exact ov_no (by rw [HV.out]; rfl) (by decide) HB1.out
  cases C
  · clear hA hB hC hD
    go_enter Try.func20, Try.ntmps20
    go_wp2_with fail
    refine (HCS.out _ HB0.out).mono ?_
    rintro e w1 ⟨rfl, hb⟩
    have HB1 := hid (bstep HB0.out HB0.out.size hb)
    have he1 := keep_cell hb HE0.out
    clear hb
    go_wp2_with fail
    refine (HCH.out _).mono ?_
    rintro e w2 ⟨rfl, rfl⟩
    go_wp2_with fail
    refine (HCR.out _).mono ?_
    rintro e w2 ⟨rfl, rfl⟩
    go_wp2_with fail
    refine bodyPost_ret (v := .tuple #[.slice none 0 0, .int .i64 7]) (by simp [results, Try.results20, go_sem]) rfl ?_
    exact ov_no (by rw [HV.out]; rfl) (by decide) HB1.out
  cases D
  · clear hA hB hC hD
    go_enter Try.func20, Try.ntmps20
    go_wp2_with fail
    refine (HCS.out _ HB0.out).mono ?_
    rintro e w1 ⟨rfl, hb⟩
    have HB1 := hid (bstep HB0.out HB0.out.size hb)
    have he1 := keep_cell hb HE0.out
    clear hb
    go_wp2_with fail
    refine (HCH.out _).mono ?_
    rintro e w2 ⟨rfl, rfl⟩
    go_wp2_with fail
    refine (HCR.out _).mono ?_
    rintro e w2 ⟨rfl, rfl⟩
    go_wp2_with fail
    refine (HCW.out _).mono ?_
    rintro e w2 ⟨rfl, rfl⟩
    go_wp2_with fail
    refine bodyPost_ret (v := .tuple #[.slice none 0 0, .int .i64 7]) (by simp [results, Try.results20, go_sem]) rfl ?_
    exact ov_no (by rw [HV.out]; rfl) (by decide) HB1.out
  obtain ⟨h1, h2⟩ := inB_iff.1 hB
  obtain ⟨g1, g2, g3⟩ := ranB_iff.1 hC
  obtain ⟨d1, d2⟩ := inB_iff.1 hD
  have HSH := hid hA
  obtain ⟨H, hH⟩ : ∃ H : Nat, (H : Int) = hd := ⟨hd.toNat, by omega⟩
  have HH12 := hid (show H ≤ 12 by omega)
  have HHN := hid (show hd.toNat = H by omega)
  have HL := hid hl
  have HGT := hid (allT_gaps ev b E g1 d2 g3 l H)
  clear hA hB hC hD hl
  subst hH
  go_enter Try.func20, Try.ntmps20
  go_wp2_with fail
  refine (HCS.out _ HB0.out).mono ?_
  rintro e w1 ⟨rfl, hb⟩
  have HB1 := hid (bstep HB0.out HB0.out.size hb)
  have he1 := keep_cell hb HE0.out
  clear hb
  go_wp2_with fail
  refine (HCH.out _).mono ?_
  rintro e w2 ⟨rfl, rfl⟩
  go_wp2_with fail
  refine (HCR.out _).mono ?_
  rintro e w2 ⟨rfl, rfl⟩
  go_wp2_with fail
  refine (HCW.out _).mono ?_
  rintro e w2 ⟨rfl, rfl⟩
  go_wp2_with fail
  refine (checksT_any v l w1 (HR.out _ HB1.out) (by have := HL.out; omega)).mono ?_
  rintro e w3 ⟨u1, rfl, hu1, hb⟩
  obtain ⟨ua1, uc1, rfl⟩ := ownK_shape hu1
  have he3 := keep_cell hb he1
  have HU1 := hid hu1
  have HB3 := hid (bstep HB1.out HB1.out.size hb)
  clear hb hu1 he1
  go_wp2_with fail
  refine (upto_any H w3 HH12.out).mono ?_
  rintro e w4 ⟨u2, rfl, hu2, hb⟩
  obtain ⟨ua2, uc2, rfl⟩ := ownJ_shape hu2
  have HE4 := hid (keep_cell hb he3)
  have HU2 := hid hu2
  have HU3 := hid (HU1.out.keep hb)
  have HB4 := hid (bstep HB3.out HB3.out.size hb)
  clear hb hu2 he3
  have hx := clo_cell (w := w4) (a := .slice ua1 (cksL (fun _ => true) l).length uc1) (b := .slice ua2 (upL H).length uc2) (T := 61) rfl
  obtain ⟨x0, x1⟩ := hx
  go_wp2_with fail
  have hb5 := (Below.refl w4.heap.size w4).alloc (Nat.le_refl _) (.cells #[.slice ua1 (cksL (fun _ => true) l).length uc1, .slice ua2 (upL H).length uc2] 61)
  have HB5 := hid (bstep HB4.out HB4.out.size hb5)
  have HE5 := hid (keep_cell hb5 HE4.out)
  have hk := (HU3.out.keep hb5).row
  have hi := HU2.out.rowI.keep hb5
  clear hb5 x0 x1
  generalize World.alloc w4 _ = w5 at *
  have HS := hid (stretches_any (cksL (fun _ => true) l) _ _ (upL H) b E 48 #[.pointer (some ⟨w.heap.size, 0, none⟩)] (ovF ev) w5 hk hi (by rw [cksL_len]; have := HL.out; omega) (by rw [upL_len]; exact HH12.out)
    (fun args W => enter_at Try.func48 (by kernel_rfl) (by kernel_rfl) args W)
    (fun p W hp hb => by
      obtain ⟨h, hp⟩ := hp
      obtain ⟨t1, t2⟩ := pr_ticks HSH.out hp
      exact overdue2_any p.1 p.2 w.heap.size ev W (keep_cell hb HE5.out) t1 t2 ⟨by omega, by omega⟩))
  clear hk hi
  refine HS.out.mono ?_
  rintro e w6 ⟨u, m, rfl, hm, ho, hb⟩
  have HM := hid hm
  have HO := hid ho
  have HB6 := hid (bstep HB5.out HB5.out.size hb)
  clear hm ho hb HS
  go_wp2_with fail
  refine bodyPost_ret (v := .tuple #[u, .int .i64 0]) (by simp [results, Try.results20, go_sem]) rfl ?_
  exact ⟨u, m, by rw [HV.out]; rfl, HO.out.low HB5.out.size, HB6.out, fun _ => by rw [HHN.out, ← HGT.out]; exact HM.out, fun h => absurd (by rw [HV.out]; rfl) h⟩
end Go.Proofs.Ytjfakhfkbnnbcaa
