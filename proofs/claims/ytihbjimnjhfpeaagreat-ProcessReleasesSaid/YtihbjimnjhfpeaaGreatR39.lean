/- Texts of this seat, one behind the other. -/
import Derived.Test.YtihbjimnjhfpeaaGreatR38
import Derived.Test.YtihbjimnjhfpeaaGreatR04
/- Walk of a search's sterile: contract. -/
namespace Go.Proofs.YtihbjimnjhfpeaaGreat
open Go.RowKit Go.Lib

theorem minA_mono {S U : List Nat} (hl : U.length = S.length) (h0 : 0 < S.length) (h : leN S U) : minA (ivN S) ≤ minA (ivN U) := by
  have hm := minA_mem (ds := ivN U) (by rw [ivN_len]; omega)
  obtain ⟨i, hi, e⟩ := List.mem_iff_getElem.1 hm
  rw [ivN_len] at hi
  have e2 : (ivN U)[i]'(by rw [ivN_len]; exact hi) = ((U[i] : Nat) : Int) := by simp [ivN]
  have e3 : ((S[i]'(by omega) : Nat) : Int) ∈ ivN S := by simp only [ivN, List.mem_map]; exact ⟨_, List.getElem_mem (by omega), rfl⟩
  have := h i (by omega) hi
  have := minA_le e3
  rw [← e, e2]
  omega
theorem addD_ge {f : Int → Nat} {S : List Nat} {T : List Int} (h1 : S.length = T.length) (hs : ∀ s ∈ S, s ≤ 1000000000000000000) : leN S (addD f S T) := by
  intro i a b
  rw [addD_get _ a (by omega)]
  have := hs _ (List.getElem_mem a)
  unfold Lt.cutN
  omega
theorem enD_tick {c : Cn} {f : Int → Nat} {D : Dish} {b need : Int} (hv : c.Ok) (hG : Good c D) (hb : okT b = true) (h : enD need D = true) : enD need (dishT c f D b) = true := by
  have hG2 := hG.tick (f := f) hv hb
  have hp := hv.p
  have hl : (tickS c D.1 b).1.length = c.P := (bodyV_iff.1 hG2.body).1
  have hm : minA (ivN D.2) ≤ minA (ivN (dishT c f D b).2) := minA_mono (by rw [hG2.len, hG.len]) (by rw [hG.len]; exact hp.1) (addD_ge (by rw [hG.len, hl]) hG.le)
  unfold enD at *
  rw [decide_eq_true_eq] at *
  omega
theorem enD_run {c : Cn} {f : Int → Nat} {D : Dish} {b need : Int} (hv : c.Ok) (hG : Good c D) (hb : okT b = true) {k n : Nat} (hk : k ≤ n) (h : enD need (afN c f D b k) = true) : enD need (afN c f D b n) = true := by
  induction n with
  | zero => obtain rfl : k = 0 := by omega
            exact h
  | succ n ih =>
    by_cases e : k = n + 1
    · subst e; exact h
    · rw [afN_succ]
      exact enD_tick hv (afN_good n hv hG hb) hb (ih (by omega))

/-- What a function of a search works on: its box, and a dish in the box behind it. -/
structure SrL (c : Cn) (need : Int) (F : Nat) (lb : Array Value) (bath cold : Int) (most cooling : Nat) (I : World → Prop) (w : World) (D : Dish) (ua ub : Option Addr) (uc ud : Nat) (W : World) : Prop where
  one : W.heap[w.heap.size]? = some (.cells #[.int .i64 (c.R : Int), .int .i64 (c.L : Int), .int .i64 c.A, .int .i64 c.B, .int .i64 c.K, .int .i64 c.A2, .int .i64 c.B2, .int .i64 need, .func (.func F) #[] lb, .int .i64 bath, .int .i64 (most : Nat), .int .i64 cold, .int .i64 (cooling : Nat)] 127 (0, 0))
  two : W.heap[w.heap.size + 1]? = some (.cells #[.slice ua D.1.1.length uc, .bool D.1.2, .slice ub D.2.length ud] 89 (0, 0))
  temps : RowI W (.slice ua D.1.1.length uc) D.1.1
  sums : RowI W (.slice ub D.2.length ud) (ivN D.2)
  inv : I W
  low : Below w.heap.size w W
section
variable {c : Cn} {need : Int} {F : Nat} {lb : Array Value} {bath cold : Int} {most cooling : Nat} {f : Int → Nat} {lo hi : Int} {mb B0 : Nat} {I : World → Prop} {w W W' : World} {D E : Dish} {ua ub ua' ub' : Option Addr} {uc ud uc' ud' : Nat}
theorem SrL.keep (hR : RateOk F lb f lo hi mb B0 I) (h : SrL c need F lb bath cold most cooling I w D ua ub uc ud W) (hb : Below W.heap.size W W') : SrL c need F lb bath cold most cooling I w D ua ub uc ud W' :=
  ⟨(hb.block _ (lt_of_block h.one)).trans h.one, (hb.block _ (lt_of_block h.two)).trans h.two, h.temps.keep hb, h.sums.keep hb, hR.below h.inv hb, bstep h.low h.low.size hb⟩
theorem SrL.store (hR : RateOk F lb f lo hi mb B0 I) (h : SrL c need F lb bath cold most cooling I w D ua ub uc ud W) (h0 : B0 ≤ w.heap.size) (ht : RowI W (.slice ua' E.1.1.length uc') E.1.1) (hs : RowI W (.slice ub' E.2.length ud') (ivN E.2)) :
    SrL c need F lb bath cold most cooling I w E ua' ub' uc' ud' (((W.setCell ⟨w.heap.size + 1, 0, none⟩ (.slice ua' E.1.1.length uc')).setCell ⟨w.heap.size + 1, 1, none⟩ (.bool E.1.2)).setCell ⟨w.heap.size + 1, 2, none⟩ (.slice ub' E.2.length ud')) := by
  obtain ⟨e1, e2, e3⟩ := set3 (y0 := .slice ua' E.1.1.length uc') (y1 := .bool E.1.2) (y2 := .slice ub' E.2.length ud') h.two
  have hg := set3_grown (W := W) (b := w.heap.size + 1) (y0 := .slice ua' E.1.1.length uc') (y1 := .bool E.1.2) (y2 := .slice ub' E.2.length ud')
  exact ⟨(e2 _ (by omega)).trans h.one, e1, rowI_same ht fun b o x hx => e2 _ (box3_noInt h.two hx), rowI_same hs fun b o x hx => e2 _ (box3_noInt h.two hx), hR.keep _ _ _ h.inv hg (fun j e => by cases e; omega), h.low.trans (e3 _ (by omega))⟩
theorem SrL.facts (h : SrL c need F lb bath cold most cooling I w D ua ub uc ud W) :
    (W.cell? ⟨w.heap.size, 0, none⟩ = some (.int .i64 (c.R : Int)) ∧ W.cell? ⟨w.heap.size, 1, none⟩ = some (.int .i64 (c.L : Int)) ∧ W.cell? ⟨w.heap.size, 2, none⟩ = some (.int .i64 c.A) ∧ W.cell? ⟨w.heap.size, 3, none⟩ = some (.int .i64 c.B) ∧ W.cell? ⟨w.heap.size, 4, none⟩ = some (.int .i64 c.K) ∧ W.cell? ⟨w.heap.size, 5, none⟩ = some (.int .i64 c.A2) ∧ W.cell? ⟨w.heap.size, 6, none⟩ = some (.int .i64 c.B2) ∧ W.cell? ⟨w.heap.size, 7, none⟩ = some (.int .i64 need) ∧ W.cell? ⟨w.heap.size, 8, none⟩ = some (.func (.func F) #[] lb)) ∧
    (W.cell? ⟨w.heap.size, 9, none⟩ = some (.int .i64 bath) ∧ W.cell? ⟨w.heap.size, 10, none⟩ = some (.int .i64 (most : Nat)) ∧ W.cell? ⟨w.heap.size, 11, none⟩ = some (.int .i64 cold) ∧ W.cell? ⟨w.heap.size, 12, none⟩ = some (.int .i64 (cooling : Nat))) ∧
    (W.cell? ⟨w.heap.size + 1, 0, none⟩ = some (.slice ua D.1.1.length uc) ∧ W.cell? ⟨w.heap.size + 1, 1, none⟩ = some (.bool D.1.2) ∧ W.cell? ⟨w.heap.size + 1, 2, none⟩ = some (.slice ub D.2.length ud)) ∧ (W.frozen? ⟨w.heap.size + 1, 0, none⟩ = false ∧ W.frozen? ⟨w.heap.size + 1, 1, none⟩ = false ∧ W.frozen? ⟨w.heap.size + 1, 2, none⟩ = false) ∧ w.heap.size + 1 < W.heap.size :=
  ⟨⟨cell_of_row _ _ 0 _ _ _ h.one, cell_of_row _ _ 1 _ _ _ h.one, cell_of_row _ _ 2 _ _ _ h.one, cell_of_row _ _ 3 _ _ _ h.one, cell_of_row _ _ 4 _ _ _ h.one, cell_of_row _ _ 5 _ _ _ h.one, cell_of_row _ _ 6 _ _ _ h.one, cell_of_row _ _ 7 _ _ _ h.one, cell_of_row _ _ 8 _ _ _ h.one⟩, ⟨cell_of_row _ _ 9 _ _ _ h.one, cell_of_row _ _ 10 _ _ _ h.one, cell_of_row _ _ 11 _ _ _ h.one, cell_of_row _ _ 12 _ _ _ h.one⟩,
    ⟨cell_of_row _ _ 0 _ _ _ h.two, cell_of_row _ _ 1 _ _ _ h.two, cell_of_row _ _ 2 _ _ _ h.two⟩, ⟨frozen_of_row _ _ 0 _ _ h.two, frozen_of_row _ _ 1 _ _ h.two, frozen_of_row _ _ 2 _ _ h.two⟩, lt_of_block h.two⟩
theorem srL_start (hI : I ((w.alloc (.cells #[.int .i64 (c.R : Int), .int .i64 (c.L : Int), .int .i64 c.A, .int .i64 c.B, .int .i64 c.K, .int .i64 c.A2, .int .i64 c.B2, .int .i64 need, .func (.func F) #[] lb, .int .i64 bath, .int .i64 (most : Nat), .int .i64 cold, .int .i64 (cooling : Nat)] 127)).alloc (.cells #[.slice ua D.1.1.length uc, .bool D.1.2, .slice ub D.2.length ud] 89))) (ht : RowI w (.slice ua D.1.1.length uc) D.1.1) (hs : RowI w (.slice ub D.2.length ud) (ivN D.2)) : SrL c need F lb bath cold most cooling I w D ua ub uc ud ((w.alloc (.cells #[.int .i64 (c.R : Int), .int .i64 (c.L : Int), .int .i64 c.A, .int .i64 c.B, .int .i64 c.K, .int .i64 c.A2, .int .i64 c.B2, .int .i64 need, .func (.func F) #[] lb, .int .i64 bath, .int .i64 (most : Nat), .int .i64 cold, .int .i64 (cooling : Nat)] 127)).alloc (.cells #[.slice ua D.1.1.length uc, .bool D.1.2, .slice ub D.2.length ud] 89)) := by
  have h := b2_start (w := w) (T1 := 127) (T2 := 89) (A := #[.int .i64 (c.R : Int), .int .i64 (c.L : Int), .int .i64 c.A, .int .i64 c.B, .int .i64 c.K, .int .i64 c.A2, .int .i64 c.B2, .int .i64 need, .func (.func F) #[] lb, .int .i64 bath, .int .i64 (most : Nat), .int .i64 cold, .int .i64 (cooling : Nat)]) (B := #[.slice ua D.1.1.length uc, .bool D.1.2, .slice ub D.2.length ud])
  exact ⟨h.one, h.two, ht.keep h.low, hs.keep h.low, hI, h.low⟩
end

set_option maxRecDepth 100000 in
set_option maxHeartbeats 8000000 in
theorem ssterile_any (c : Cn) (need : Int) (F : Nat) (lb : Array Value) (bath cold : Int) (most cooling : Nat) (f : Int → Nat) (lo hi : Int) (mb B0 : Nat) (I : World → Prop) (D : Dish) (ua ub : Option Addr) (uc ud : Nat) (w : World) (hR : RateOk F lb f lo hi mb B0 I) (hF : Fix I mb) (hv : c.V) (hG : Good c D) (hb : okT cold = true) (hn : cooling ≤ 2000) (hI : I w)
    (ht : RowI w (.slice ua D.1.1.length uc) D.1.1) (hs : RowI w (.slice ub D.2.length ud) (ivN D.2)) (hbc : lo ≤ cold ∧ cold ≤ hi) (hbd : ∀ t ∈ D.1.1, lo ≤ t ∧ t ≤ hi) :
    Calls Tryz.prog 116 #[.agg #[.int .i64 (c.R : Int), .int .i64 (c.L : Int), .int .i64 c.A, .int .i64 c.B, .int .i64 c.K, .int .i64 c.A2, .int .i64 c.B2, .int .i64 need, .func (.func F) #[] lb, .int .i64 bath, .int .i64 (most : Nat), .int .i64 cold, .int .i64 (cooling : Nat)], .agg #[.slice ua D.1.1.length uc, .bool D.1.2, .slice ub D.2.length ud]] w fun e w' => e = .returned (.bool (enD need (afN c f D cold cooling))) ∧ Below w.heap.size w w' := by
  have h0 := hR.le w hI
  have H0 := hid h0
  have HRR := hid hR
  have HS := hid (srL_start (c := c) (need := need) (F := F) (lb := lb) (bath := bath) (cold := cold) (most := most) (cooling := cooling) (I := I) (hR.below hI ((Below.refl _ _).alloc (Nat.le_refl _) _ |>.alloc (by simp) _)) ht hs)
  have HEN := hid (fun k (E : Dish) (hE : E = afN c f D cold k) (ua ub : Option Addr) (uc ud : Nat) (W : World) (h : RowI W (.slice ub E.2.length ud) (ivN E.2)) => enough_any c need F lb E ua ub uc ud W (by rw [hE, (afN_good k hv.ok hG hb).len]; exact hv.ok.p.1) (by rw [hE, (afN_good k hv.ok hG hb).len]; exact hv.ok.p.2) h)
  have HAF := hid (fun k (E : Dish) (hE : E = afN c f D cold k) (ua ub : Option Addr) (uc ud : Nat) (W : World) (hIW : I W) (ht : RowI W (.slice ua E.1.1.length uc) E.1.1) (hs : RowI W (.slice ub E.2.length ud) (ivN E.2)) => mafter_any c need cold F lb f lo hi mb B0 I E ua ub uc ud W hR hv (by rw [hE]; exact afN_good k hv.ok hG hb) hb hIW ht hs (by
      have := afN_bd (f := f) (k + 1) hv.ok hG hbc hbd
      rw [afN_succ] at this
      rw [hE]
      exact this))
  have HER := hid (fun k (hk : k ≤ cooling) => enD_run (f := f) (need := need) hv.ok hG hb hk)
  have HSU := hid (fun k => afN_succ c f D cold k)
  have HZ := hid (afN_zero c f D cold)
  have HFX := hid hF
  clear h0 hR ht hs hI hG hv hb hbc hbd hF
  go_enter Tryz.func116, Tryz.ntmps116
  go_wp2_with fail
  go_loopw [7] (fun x wr => ∃ k : Nat, k ≤ cooling ∧ x = .int .i64 (k : Int) ∧ ∃ ua ub uc ud, Hid (SrL c need F lb bath cold most cooling I w (afN c f D cold k) ua ub uc ud wr)) (fun x _ => cooling - (intOf x).toNat)
  case atStart => exact ⟨0, Nat.zero_le _, rfl, ua, ub, uc, ud, by rw [HZ.out]; exact HS⟩
  case round =>
    obtain ⟨k, hk, rfl, ua, ub, uc, ud, hS⟩ := hrel
    have HEN2 := hid (HEN.out k _ rfl ua ub uc ud _ hS.out.sums)
    by_cases hlt : k < cooling
    · have hlt' : (k : Int) < cooling := by omega
      have HAF2 := hid (HAF.out k _ rfl)
      have HSU2 := hid (HSU.out k)
      have HER2 := hid (HER.out k hk)
      generalize afN c f D cold k = E at *
      obtain ⟨⟨m0, m1, m2, m3, m4, m5, m6, m7, m8⟩, ⟨s0, s1, s2, s3⟩, ⟨d0, d1, d2⟩, ⟨f0, f1, f2⟩, hz⟩ := hS.out.facts
      have HLT := hid hlt
      clear hlt
      go_wp2_with fail
      refine (HEN2.out).mono ?_
      rintro e w3 ⟨rfl, hb3⟩
      have H3 := hid (hS.out.keep HRR.out hb3)
      clear hb3 m0 m1 m2 m3 m4 m5 m6 m7 m8 s0 s1 s2 s3 d0 d1 d2 f0 f1 f2 hz hS HEN2
      obtain ⟨⟨m0, m1, m2, m3, m4, m5, m6, m7, m8⟩, ⟨s0, s1, s2, s3⟩, ⟨d0, d1, d2⟩, ⟨f0, f1, f2⟩, hz⟩ := H3.out.facts
      by_cases he : enD need E = true
      · have hfin := HER2.out he
        rw [he]
        go_wp2_with fail
        refine bodyPost_ret (v := .bool true) (by simp [results, Tryz.results116, go_sem]) rfl ⟨by rw [hfin], H3.out.low⟩
      · rw [show enD need E = false by simpa using he]
        go_wp2_with fail
        refine (HAF2.out ua ub uc ud _ H3.out.inv H3.out.temps H3.out.sums).mono ?_
        rintro e w4 ⟨ua', ub', uc', ud', rfl, ht4, hs4, hi4, hg4⟩
        rw [← HSU2.out] at ht4 hs4 ⊢
        have H4 := hid (H3.out.keep HRR.out (HFX.out.low H3.out.inv hi4 hg4))
        have HST := hid (H4.out.store HRR.out H0.out ht4 hs4)
        clear m0 m1 m2 m3 m4 m5 m6 m7 m8 s0 s1 s2 s3 d0 d1 d2 f0 f1 f2 hz ht4 hs4 hi4 hg4 H3
        obtain ⟨_, _, ⟨d0, d1, d2⟩, ⟨f0, f1, f2⟩, hz⟩ := H4.out.facts
        go_wp2_with fail
        go_roundw
        case rel => exact ⟨k + 1, HLT.out, by go_num, ua', ub', uc', ud', HST⟩
        case measure => have := HLT.out; simp [intOf]; omega
    · obtain rfl : k = cooling := by omega
      generalize hE : afN c f D cold k = E at *
      have HE := hid hE
      obtain ⟨⟨m0, m1, m2, m3, m4, m5, m6, m7, m8⟩, ⟨s0, s1, s2, s3⟩, ⟨d0, d1, d2⟩, ⟨f0, f1, f2⟩, hz⟩ := hS.out.facts
      clear hlt hE
      go_wp2_with fail
      refine (HEN2.out).mono ?_
      rintro e w3 ⟨rfl, hb3⟩
      have H3 := hid (hS.out.keep HRR.out hb3)
      clear hb3 m0 m1 m2 m3 m4 m5 m6 m7 m8 s0 s1 s2 s3 d0 d1 d2 f0 f1 f2 hz
      go_wp2_with fail
      refine bodyPost_ret (v := .bool (enD need E)) (by simp [results, Tryz.results116, go_sem]) rfl ⟨by rw [← HE.out], H3.out.low⟩
end Go.Proofs.YtihbjimnjhfpeaaGreat

/- Walk of after: contract that says where the new rows lie, too. -/
namespace Go.Proofs.YtihbjimnjhfpeaaGreat
open Go.RowKit Go.Lib

/-- A block of ints. -/
def IntAt (W : World) (b : Nat) : Prop := ∃ cs fz, W.heap[b]? = some (.cells cs 3 fz)
/-- What comes back for a dish: both rows are new. -/
def DishN (I : World → Prop) (mb : Nat) (D : Dish) (w : World) (e : Ending) (w' : World) : Prop :=
  ∃ (ua ub : Option Addr) (uc ud : Nat), e = .returned (.agg #[.slice ua D.1.1.length uc, .bool D.1.2, .slice ub D.2.length ud]) ∧ RowI w' (.slice ua D.1.1.length uc) D.1.1 ∧ RowI w' (.slice ub D.2.length ud) (ivN D.2) ∧ I w' ∧ w.grownBy w' (some mb) ∧ (∀ a, ua = some a → w.heap.size ≤ a.block ∧ IntAt w' a.block) ∧ (∀ a, ub = some a → w.heap.size ≤ a.block ∧ IntAt w' a.block)

set_option maxRecDepth 100000 in
set_option maxHeartbeats 8000000 in
theorem mafterN_any (c : Cn) (need b : Int) (F : Nat) (lb : Array Value) (f : Int → Nat) (lo hi : Int) (mb B0 : Nat) (I : World → Prop) (D : Dish) (ua ub : Option Addr) (uc ud : Nat) (w : World) (hR : RateOk F lb f lo hi mb B0 I) (hv : c.V) (hG : Good c D) (hb : okT b = true) (hI : I w)
    (ht : RowI w (.slice ua D.1.1.length uc) D.1.1) (hs : RowI w (.slice ub D.2.length ud) (ivN D.2)) (hbd : ∀ t ∈ (tickS c D.1 b).1, lo ≤ t ∧ t ≤ hi) :
    Calls Tryz.prog 76 #[.agg #[.int .i64 (c.R : Int), .int .i64 (c.L : Int), .int .i64 c.A, .int .i64 c.B, .int .i64 c.K, .int .i64 c.A2, .int .i64 c.B2, .int .i64 need, .func (.func F) #[] lb], .agg #[.slice ua D.1.1.length uc, .bool D.1.2, .slice ub D.2.length ud], .int .i64 b] w (DishN I mb (dishT c f D b) w) := by
  have h0 := hR.le w hI
  have hp := hv.ok.p
  have hG2 := hG.tick (f := f) hv.ok hb
  have hlS := hG.len
  have hlT : (tickS c D.1 b).1.length = c.P := (bodyV_iff.1 hG2.body).1
  have HST := hid (fun W (h : RowI W (.slice ua D.1.1.length uc) D.1.1) => step_ok c D.1 _ b W hv hG.body (show okL [b] = true by simp [okL, hb]) h)
  have HCL := hid (fun W (h : RowI W (.slice ub D.2.length ud) (ivN D.2)) => clone_yes W _ (ivN D.2) h (by rw [ivN_len]; omega) (by rw [ivN_len]; omega))
  have HS := hid (b3_start (w := w) (T1 := 80) (T2 := 89) (T3 := 89) (A := #[.int .i64 (c.R : Int), .int .i64 (c.L : Int), .int .i64 c.A, .int .i64 c.B, .int .i64 c.K, .int .i64 c.A2, .int .i64 c.B2, .int .i64 need, .func (.func F) #[] lb]) (B := #[.slice ua D.1.1.length uc, .bool D.1.2, .slice ub D.2.length ud]) (R := #[.slice none 0 0, .bool false, .slice none 0 0]))
  have HT := hid (fun W (g : Below w.heap.size w W) => ht.keep g)
  have HSM := hid (fun W (g : Below w.heap.size w W) => hs.keep g)
  have HI := hid (fun W (g : Below w.heap.size w W) => hR.below hI g)
  have HRR := hid hR
  have HG := hid (show dishT c f D b = (tickS c D.1 b, addD f D.2 (tickS c D.1 b).1) from rfl)
  have HBD := hid hbd
  have HLE := hid hG.le
  have HLS := hid hlS
  have HLT := hid hlT
  have H0 := hid h0
  have HP := hid hp
  have hrun : runS c D.1 [b] = tickS c D.1 b := rfl
  clear hrun hlS hlT h0 hbd hI ht hs hb hG2 hR hG hv hp
  go_enter Tryz.func76, Tryz.ntmps76
  go_wp2_with fail
  refine (HST.out _ (HT.out _ HS.out.low)).mono ?_
  rintro e w1 ⟨v1, rfl, ⟨g1, rfl, hg1, hg2⟩, hb1⟩
  rw [show runS c D.1 [b] = tickS c D.1 b from rfl] at hg2 ⊢
  have H1 := hid (HS.out.keep hb1)
  have hbd := HBD.out
  generalize hX : tickS c D.1 b = X at *
  have HX := hid hX
  clear hX
  obtain ⟨T, br⟩ := X
  dsimp only at hg2 hbd ⊢
  have HBD := hid hbd
  have HG1 := hid hg2
  have HGN := hid (Nat.lt_of_lt_of_le (show w.heap.size + 1 + 1 < (((w.alloc (.cells #[.int .i64 (c.R : Int), .int .i64 (c.L : Int), .int .i64 c.A, .int .i64 c.B, .int .i64 c.K, .int .i64 c.A2, .int .i64 c.B2, .int .i64 need, .func (.func F) #[] lb] 80)).alloc (.cells #[.slice ua D.1.1.length uc, .bool D.1.2, .slice ub D.2.length ud] 89)).alloc (.cells #[.slice none 0 0, .bool false, .slice none 0 0] 89)).heap.size from HS.out.lt) hg1)
  clear hg2 hg1 hbd hb1
  have k0 := cell_of_row _ _ 0 _ _ _ H1.out.two
  have k1 := cell_of_row _ _ 1 _ _ _ H1.out.two
  have k2 := cell_of_row _ _ 2 _ _ _ H1.out.two
  simp only [List.getElem?_toArray, List.getElem?_cons_zero, List.getElem?_cons_succ] at k0 k1 k2
  have hz1 := H1.out.lt
  have hz2 : w.heap.size + 1 < w1.heap.size := by omega
  go_wp2_with fail
  have hba := (Below.refl _ w1).alloc (Nat.le_refl _) (.cells #[.slice (some ⟨g1, 0, none⟩) T.length T.length, .bool br] 87)
  have H2 := hid (H1.out.keep hba)
  have HB2 := hid (heap_alloc_new w1 (.cells #[.slice (some ⟨g1, 0, none⟩) T.length T.length, .bool br] 87))
  have HG2 := hid ((hba.block _ (lt_of_block HG1.out)).trans HG1.out)
  have HZ2 := hid (show w.heap.size + 1 + 1 < w1.heap.size from H1.out.lt)
  have HGL := hid (lt_of_block HG1.out)
  generalize w1.heap.size = n at *
  generalize w1.alloc _ = W2 at *
  clear hba k0 k1 k2 hz1 hz2 H1 HG1 HST
  refine (HCL.out _ (HSM.out _ H2.out.low)).mono ?_
  rintro e w3 ⟨g2, cap, rfl, ho, hb3⟩
  rw [ivN_len, HLS.out, ← HLT.out] at ho ⊢
  have hlT : T.length = c.P := HLT.out
  have HA : Hid (AfL c need F lb f mb I D.2 T br g1 g2 cap n W2.heap.size w 0 w3) := by
    refine ⟨(hb3.block _ (lt_of_block H2.out.one)).trans H2.out.one, (hb3.block _ (lt_of_block H2.out.three)).trans H2.out.three, (hb3.block _ (lt_of_block HB2.out)).trans HB2.out, (hb3.block _ (lt_of_block HG2.out)).trans HG2.out, ?_, HI.out _ (H2.out.low.trans (hb3.mono H2.out.low.size)), Lt.gbelow (H2.out.low.trans (hb3.mono H2.out.low.size)), HZ2.out, lt_of_block HB2.out, lt_of_block HG2.out⟩
    rw [midD_zero, HLS.out, ← hlT]
    rwa [ivs_len, ivN_len, HLS.out, ← hlT] at ho
  have hlS : D.2.length = T.length := by rw [HLS.out, hlT]
  have HLEN := hid hlS
  have HPT := hid (show 1 ≤ T.length ∧ T.length ≤ 48 by rw [hlT]; exact HP.out)
  generalize D.2 = S at HA HLE HLEN HG
  have k0 := cell_of_row _ _ 0 _ _ _ HA.out.body
  simp only [List.getElem?_toArray, List.getElem?_cons_zero] at k0
  clear ho hb3 HB2 HG2 HZ2 HGL H2 HCL HSM HI HT HS hlT hlS HLS HP
  generalize W2.heap.size = base at *
  go_wp2_with fail
  have hT48 := HPT.out
  go_loopw [27] (fun t wr => ∃ k : Nat, k ≤ T.length ∧ t = .int .i64 (k : Int) ∧ Hid (AfL c need F lb f mb I S T br g1 g2 cap n base w k wr)) (fun t _ => T.length - (intOf t).toNat)
  case atStart => exact ⟨0, Nat.zero_le _, rfl, HA⟩
  case round =>
    obtain ⟨k, hk, rfl, hA⟩ := hrel
    by_cases hlt : k < T.length
    · have hkS : k < S.length := by rw [HLEN.out]; exact hlt
      have hlt' : (k : Int) < T.length := by omega
      have ex := cell_of_row _ _ k _ _ _ hA.out.temps
      have hex : (ivs T).toArray[k]? = some (.int .i64 T[k]) := by simp [ivs, hlt]
      rw [hex] at ex
      have hS := HLE.out _ (List.getElem_mem hkS)
      have hbt := HBD.out _ (List.getElem_mem hlt)
      have HM := hid (ivs_at (ivN_at (midD_at (f := f) HLEN.out hkS)))
      have HSTO := hid (fun W (h : AfL c need F lb f mb I S T br g1 g2 cap n base w k W) => AfL.store (W := W) HRR.out h H0.out HLEN.out hkS)
      have hy := HRR.out.fle T[k]
      have HCA := hid (fun W hI => HRR.out.call W T[k] hI hbt.1 hbt.2)
      have HCU := hid (cutN_int (x := S[k]) (y := f T[k]))
      have HKS := hid hkS
      generalize S[k] = x at *
      generalize hTk : T[k] = t at *
      clear hTk hex hbt
      generalize hfy : f t = y at *
      have HFY := hid hfy
      have heq := HRR.out.enter
      clear hkS hlt hfy
      go_wp2_with fail
      refine wp_region_sink (S := RawAfD c need F lb f mb I S T br g1 g2 cap n base w k x) 13 (by kernel_rfl) (by kernel_rfl) (by kernel_rfl) (by kernel_rfl) (rawAfD (hA.out.keep HRR.out (Below.refl _ wr).drew H0.out) HM.out HKS.out) (fun hS0 => ?_)
      have hwr : IntKind.i64.wrap ((x : Int) + (y : Int)) = (x : Int) + (y : Int) := wrap_i64 (by omega) (by omega)
      refine wpAnyH_take (i := 0) (v := ?_) rfl (by kernel_rfl) (by kernel_rfl) (by kernel_rfl) (fun _ _ _ h => h) (Or.inl ⟨by rfl, ?_⟩) hS0 ?_
      rotate_left
      · intro w' hSw
        obtain ⟨q0, q1, _⟩ := hSw
        go_simp
        try with_reducible rfl
      try simp only [Act.put]
      try simp only [List.setIfInBounds_toArray]
      try simp only [List.set_cons_zero, List.set_cons_succ]
      refine wpAnyH_take (i := 1) (v := ?_) rfl (by kernel_rfl) (by kernel_rfl) (by kernel_rfl) (fun _ _ _ h => h) (Or.inl ⟨by rfl, ?_⟩) hS0 ?_
      rotate_left
      · intro w' hSw
        obtain ⟨q0, q1, _⟩ := hSw
        go_simp
        try with_reducible rfl
      try simp only [Act.put]
      try simp only [List.setIfInBounds_toArray]
      try simp only [List.set_cons_zero, List.set_cons_succ]
      refine wpAnyH_take (i := 2) (v := ?_) rfl (by kernel_rfl) (by kernel_rfl) (by kernel_rfl) (fun _ _ _ h => h) (Or.inl ⟨by rfl, ?_⟩) hS0 ?_
      rotate_left
      · intro w' hSw
        obtain ⟨q0, q1, _⟩ := hSw
        go_simp
        try with_reducible rfl
      try simp only [Act.put]
      try simp only [List.setIfInBounds_toArray]
      try simp only [List.set_cons_zero, List.set_cons_succ]
      refine wpAnyH_take (i := 3) (v := ?_) rfl (by kernel_rfl) (by kernel_rfl) (by kernel_rfl) (fun _ _ _ h => h) (Or.inl ⟨by rfl, ?_⟩) hS0 ?_
      rotate_left
      · intro w' hSw
        obtain ⟨q0, q1, _⟩ := hSw
        go_simp
        try with_reducible rfl
      try simp only [Act.put]
      try simp only [List.setIfInBounds_toArray]
      try simp only [List.set_cons_zero, List.set_cons_succ]
      refine wpAnyH_take (i := 4) (v := ?_) rfl (by kernel_rfl) (by kernel_rfl) (by kernel_rfl) (fun _ _ _ h => h) (Or.inl ⟨by rfl, ?_⟩) hS0 ?_
      rotate_left
      · intro w' hSw
        obtain ⟨q0, q1, _⟩ := hSw
        go_simp
        try with_reducible rfl
      try simp only [Act.put]
      try simp only [List.setIfInBounds_toArray]
      try simp only [List.set_cons_zero, List.set_cons_succ]
      refine wpAnyH_take (i := 5) (v := ?_) rfl (by kernel_rfl) (by kernel_rfl) (by kernel_rfl) (fun _ _ _ h => h) (Or.inl ⟨by rfl, ?_⟩) hS0 ?_
      rotate_left
      · intro w' hSw
        obtain ⟨q0, q1, _⟩ := hSw
        go_simp
        try with_reducible rfl
      try simp only [Act.put]
      try simp only [List.setIfInBounds_toArray]
      try simp only [List.set_cons_zero, List.set_cons_succ]
      refine wpAnyH_take (i := 6) (v := ?_) rfl (by kernel_rfl) (by kernel_rfl) (by kernel_rfl) (fun _ _ _ h => h) (Or.inl ⟨by rfl, ?_⟩) hS0 ?_
      rotate_left
      · intro w' hSw
        obtain ⟨q0, q1, _⟩ := hSw
        go_simp
        try with_reducible rfl
      try simp only [Act.put]
      try simp only [List.setIfInBounds_toArray]
      try simp only [List.set_cons_zero, List.set_cons_succ]
      refine wpAnyH_take (i := 7) (v := ?_) rfl (by kernel_rfl) (by kernel_rfl) (by kernel_rfl) (fun _ _ _ h => h) (Or.inl ⟨by rfl, ?_⟩) hS0 ?_
      rotate_left
      · intro w' hSw
        obtain ⟨q0, q1, _⟩ := hSw
        go_simp
        try with_reducible rfl
      try simp only [Act.put]
      try simp only [List.setIfInBounds_toArray]
      try simp only [List.set_cons_zero, List.set_cons_succ]
      refine wpAnyH_take (i := 8) (v := ?_) rfl (by kernel_rfl) (by kernel_rfl) (by kernel_rfl) (fun _ _ _ h => h) (Or.inl ⟨by rfl, ?_⟩) hS0 ?_
      rotate_left
      · intro w' hSw
        obtain ⟨q0, q1, _⟩ := hSw
        go_simp
        try with_reducible rfl
      try simp only [Act.put]
      try simp only [List.setIfInBounds_toArray]
      try simp only [List.set_cons_zero, List.set_cons_succ]
      (refine wpAnyH_ready (rs := [9]) (by kernel_rfl) (by simp) ?_)
      refine AllReadyH.cons rfl (fun K hK => ?_) AllReadyH.nil
      go_simp
      refine (HCA.out _ hS0.2.2.inv).mono ?_
      rintro e w5 ⟨rfl, hi5, hg5⟩
      (refine hK.out _ _ (rawAfD (hS0.2.2.call HRR.out hg5 hi5 H0.out) HM.out HKS.out) (fun hS1 => ?_); clear hK K)
      refine wpAnyH_take (i := 10) (v := ?_) rfl (by kernel_rfl) (by kernel_rfl) (by kernel_rfl) (fun _ _ _ h => h) (Or.inl ⟨by rfl, ?_⟩) hS1 ?_
      rotate_left
      · intro w' hSw
        obtain ⟨q0, q1, _⟩ := hSw
        go_simp
        try with_reducible rfl
      try simp only [Act.put]
      try simp only [List.setIfInBounds_toArray]
      try simp only [List.set_cons_zero, List.set_cons_succ]
      refine wpAnyH_take (i := 11) (v := ?_) rfl (by kernel_rfl) (by kernel_rfl) (by kernel_rfl) (fun _ _ _ h => h) (Or.inl ⟨by rfl, ?_⟩) hS1 ?_
      rotate_left
      · intro w' hSw
        obtain ⟨q0, q1, _⟩ := hSw
        go_simp
        try with_reducible rfl
      try simp only [Act.put]
      try simp only [List.setIfInBounds_toArray]
      try simp only [List.set_cons_zero, List.set_cons_succ]
      refine wpAnyH_take (i := 12) (v := ?_) rfl (by kernel_rfl) (by kernel_rfl) (by kernel_rfl) (fun _ _ _ h => h) (Or.inl ⟨by rfl, ?_⟩) hS1 ?_
      rotate_left
      · intro w' hSw
        obtain ⟨q0, q1, _⟩ := hSw
        go_simp
        try with_reducible rfl
      try simp only [Act.put]
      try simp only [List.setIfInBounds_toArray]
      try simp only [List.set_cons_zero, List.set_cons_succ]
      refine wpAnyH_done (by kernel_rfl) ?_ _
      have k5 := hS1.1
      have f5 := hS1.2.2.own.frozenAt k
      have HA6 := hid (HSTO.out _ hS1.2.2)
      rw [HCU.out] at HA6
      clear hS0 hS1 hg5 hi5
      refine sink_last rfl (fun K hK => ?_)
      go_simp
      refine hK.out _ _ ?_
      clear hK K
      go_wp2_with fail
      go_roundw
      case rel => exact ⟨k + 1, by have := HKS.out; rw [HLEN.out] at this; omega, by go_num, HA6⟩
      case measure => have := HKS.out; rw [HLEN.out] at this; simp [intOf]; omega
    · obtain rfl : k = T.length := by omega
      have hT := hid (rowI_of_block (cap := T.length) hA.out.temps (by omega))
      have HG2L : Hid (w.heap.size ≤ g2) := by have h1 := hA.out.lt1; have h2 := hA.out.lt2; have h3 := (World.ownsRow.lt hA.out.own g2 rfl).1; exact hid (by omega)
      have hown := hA.out.own
      rw [← HLEN.out, midD_all HLEN.out] at hown
      have hS := hid (own_rowI (l := ivN (addD f S T)) (by rw [ivN_len, addD_len HLEN.out]; exact hown) (by rw [ivN_len, addD_len HLEN.out, HLEN.out]; omega))
      have c0 := cell_of_row _ _ 0 _ _ _ hA.out.body
      have c1 := cell_of_row _ _ 1 _ _ _ hA.out.body
      have t0 := cell_of_row _ _ 0 _ _ _ hA.out.three
      have t1 := cell_of_row _ _ 1 _ _ _ hA.out.three
      have t2 := cell_of_row _ _ 2 _ _ _ hA.out.three
      have f0 := frozen_of_row _ _ 0 _ _ hA.out.three
      have f1 := frozen_of_row _ _ 1 _ _ hA.out.three
      have f2 := frozen_of_row _ _ 2 _ _ hA.out.three
      simp only [List.getElem?_toArray, List.getElem?_cons_zero, List.getElem?_cons_succ] at c0 c1 t0 t1 t2
      have hz3 := lt_of_block hA.out.three
      clear k0 hk hown
      go_wp2_with fail
      have HST := hid (set3 (y0 := (.slice (some ⟨g1, 0, none⟩) T.length T.length)) (y1 := (.bool br)) (y2 := (.slice (some ⟨g2, 0, none⟩) T.length cap)) hA.out.three)
      have HGR := hid (set3_grown (W := wr) (b := w.heap.size + 1 + 1) (y0 := (.slice (some ⟨g1, 0, none⟩) T.length T.length)) (y1 := (.bool br)) (y2 := (.slice (some ⟨g2, 0, none⟩) T.length cap)))
      obtain ⟨W9, hW9⟩ : ∃ W9 : World, W9 = ((wr.setCell ⟨w.heap.size + 1 + 1, 0, none⟩ (.slice (some ⟨g1, 0, none⟩) T.length T.length)).setCell ⟨w.heap.size + 1 + 1, 1, none⟩ (.bool br)).setCell ⟨w.heap.size + 1 + 1, 2, none⟩ (.slice (some ⟨g2, 0, none⟩) T.length cap) := ⟨_, rfl⟩
      rw [← hW9] at HST HGR ⊢
      clear hW9
      obtain ⟨e1, e2, e3⟩ := HST.out
      have hr9 : RowI W9 (.slice (some ⟨g1, 0, none⟩) T.length T.length) T := rowI_same hT.out fun b o x hx => e2 _ (box3_noInt hA.out.three hx)
      have hs9 : RowI W9 (.slice (some ⟨g2, 0, none⟩) T.length cap) (ivN (addD f S T)) := by
        have h := rowI_same hS.out fun b o x hx => e2 _ (box3_noInt hA.out.three hx)
        rwa [HLEN.out] at h
      have HT1 : Hid (IntAt W9 g1) := ⟨_, _, (e2 g1 (by have := HGN.out; omega)).trans hA.out.temps⟩
      have HT2 : Hid (IntAt W9 g2) := by
        rcases hA.out.own.2 with ⟨h, _⟩ | ⟨g, cap', cur, hv, hbg, hgg, _⟩
        · cases h
        · cases hv
          have h1 := hA.out.lt1; have h2 := hA.out.lt2
          exact ⟨cur, (0, 0), (e2 g2 (by omega)).trans hgg⟩
      have hi9 : I W9 := HRR.out.keep _ _ _ hA.out.inv HGR.out (fun j e => by cases e; have := H0.out; omega)
      have hg9 := Lt.grown_more hA.out.grow HGR.out (fun j e => by cases e; exact .inr (by omega))
      have HE := hid (And.intro hr9 (And.intro hs9 (And.intro hi9 hg9)))
      have s0 := cell_of_row _ _ 0 _ _ _ e1
      have s1 := cell_of_row _ _ 1 _ _ _ e1
      have s2 := cell_of_row _ _ 2 _ _ _ e1
      simp only [List.getElem?_toArray, List.getElem?_cons_zero, List.getElem?_cons_succ] at s0 s1 s2
      refine bodyPost_ret (v := .agg #[.slice (some ⟨g1, 0, none⟩) T.length T.length, .bool br, .slice (some ⟨g2, 0, none⟩) T.length cap]) ?_ rfl ?_
      · simp [results, Tryz.results76, go_sem, s0, s1, s2]
      · obtain ⟨h1, h2, h3, h4⟩ := HE.out
        rw [HG.out]
        have hl := addD_len (f := f) HLEN.out
        exact ⟨some ⟨g1, 0, none⟩, some ⟨g2, 0, none⟩, T.length, cap, by dsimp only; rw [hl, HLEN.out], h1, by dsimp only; rw [hl, HLEN.out]; exact h2, h3, h4, by have := HGN.out; intro a e; cases e; exact ⟨show w.heap.size ≤ g1 by omega, HT1.out⟩, by intro a e; cases e; exact ⟨HG2L.out, HT2.out⟩⟩
end Go.Proofs.YtihbjimnjhfpeaaGreat

/- A range over a function that yields values told by a relation (what the run itself lays), whose iterator keeps state of its own in cells of one type: the caller's law. -/
namespace Go.Proofs.YtihbjimnjhfpeaaGreat
open Go.RowKit

section
variable {α : Type} {F : Fence} {n : Nat} {P : Program}
/-- J stands when a walk's object, or cells of type T, that are no older than B, are turned, and when blocks are laid. -/
def AbN (T B : Nat) (J : Nat → World → Prop) : Prop :=
  ∀ s W W' row, J s W → W.grownBy W' row → (∀ j, row = some j → B ≤ j ∧ ∃ o : Obj, W.heap[j]? = some o ∧ Obj.turns T o) → J s W'
/-- The same of what is no cells. -/
def OwN (T B : Nat) (J : Nat → World → Prop) : Prop :=
  ∀ s W W' row, J s W → W.grownBy W' row → (∀ j, row = some j → B ≤ j ∧ ∃ o : Obj, W.heap[j]? = some o ∧ Obj.apart T o) → J s W'
/-- An iterator that makes N rounds; the k-th is for a value that Xs tells of in the round's world; a round that goes on pays Kp. -/
def SeqN (T : Nat) (F : Fence) (n : Nat) (P : Program) (gf : Nat) (lb : Array Value) (encs : α → Array Value) (Kp : World → World → Prop) (N : Nat) (Xs : Nat → α → World → Prop) (w : World) : Prop :=
  ∀ (l : Nat) (J Jx : Nat → World → Prop) (W : World), Below w.heap.size w W → AbN T W.heap.size J → AbN T W.heap.size Jx →
    (∀ k x W1, k < N → Xs k x W1 → J k W1 → YieldAt F (n - 1) P l (encs x) W1 fun e W' =>
      (e = .returned (.bool true) ∧ J (k + 1) W' ∧ Kp W1 W') ∨ (e = .returned (.bool false) ∧ Jx (k + 1) W')) →
    J 0 W →
    CallsIn F n P gf (#[.func (.yield l) #[] #[]] ++ lb) W fun e W' => (∃ v, e = .returned v) ∧ (J N W' ∨ ∃ k, k ≤ N ∧ Jx k W')

theorem OwN.put {T B : Nat} {J : Nat → World → Prop} (h : OwN T B J) {s : Nat} {W : World} {l : Nat} {o : Obj} (o' : Obj) (hs : J s W) (hB : B ≤ l) (hl : W.heap[l]? = some o) (ho : o.isCells = false) : J s (W.putObj l o') :=
  h s W _ (some l) hs (grownBy_putObj' W l o') (fun j e => by cases e; exact ⟨hB, o, hl, .inl ho⟩)
theorem OwN.lay {T B : Nat} {J : Nat → World → Prop} (h : OwN T B J) {s : Nat} {W : World} (o : Obj) (hs : J s W) : J s (W.alloc o) :=
  h s W _ none hs (World.grownBy_alloc W o none) (fun j e => by cases e)
/-- The statement 'for .. := range g' whose assignment lays blocks: what it leaves is Ax. -/
theorem range_told {T : Nat} {g : Operand} {ps : Array Tmp} {assign body : Code} {Q : Exit → Act → World → Prop} {a : Act} {w w0 : World} {gf : Nat} {lb : Array Value} {encs : α → Array Value} {Kp : World → World → Prop} {N : Nat} {Xs : Nat → α → World → Prop}
    (hro : F.round = none) (h1 : 1 ≤ n) (hg : a.eval g = .func (.func gf) #[] lb) (hFg : F.fn gf) (eg : ∀ args w, (callFunc gf args).run P w = .ok (.enter gf args) w)
    (hseq : SeqN T F (n - 1) P gf lb encs Kp N Xs w0) (hKt : ∀ {A B C : World}, Kp A B → Kp B C → Kp A C)
    (hKb : ∀ (W : World) (l : Nat) (o o' : Obj), w.heap.size ≤ l → W.heap[l]? = some o → o.isCells = false → o.isWalk = false → Kp W (W.putObj l o'))
    (hb0 : Below w0.heap.size w0 w) (hps : ∀ x, (encs x).size = ps.size)
    (I Ix : Nat → World → Prop) (hI : OwN T w.heap.size I) (hIx : OwN T w.heap.size Ix) (h0 : I 0 w) (Ax : α → Act → World → Prop) (hXs : ∀ (k : Nat) (x : α) (W : World) (l : Nat) (o o' : Obj), Xs k x W → w.heap.size ≤ l → W.heap[l]? = some o → o.isCells = false → Xs k x (W.putObj l o')) (hAx : ∀ (x : α) (a' : Act) (W : World) (l : Nat) (o o' : Obj), Ax x a' W → w.heap.size ≤ l → W.heap[l]? = some o → o.isCells = false → Ax x a' (W.putObj l o'))
    (hassign : ∀ (l k : Nat) (x : α) (W : World) (K : Act → World → Prop), k < N → Xs k x W → I k W → (∀ a' W', KeepsFrom w.heap.size W W' → Kp W W' → Xs k x W' → I k W' → Ax x a' W' → K a' W') →
      assign.wpIn (F.inRound l) (n - 1 - 1) P (Exit.then K (fun _ _ _ => False)) { tmps := (ps.zip (encs x)).foldl (fun t (p, v) => t.setIfInBounds p v) a.tmps, defers := [] } W)
    (hbody : ∀ (l k : Nat) (x : α) (a' : Act) (W : World), k < N → Xs k x W → I k W → Ax x a' W → body.wpIn (F.inRound l) (n - 1 - 1) P (EndM w.heap.size Kp (I (k + 1)) (Ix (k + 1)) W) a' W)
    (hdone : ∀ (D : Nat) (W : World), w.heap.size ≤ D → I N W → W.heap[D]? = some (.deferred (some [])) → Q .normal { a with defers := { target := .collected D, args := #[] } :: a.defers } W)
    (hstop : ∀ (D k : Nat) (W : World), w.heap.size ≤ D → k ≤ N → Ix k W → W.heap[D]? = some (.deferred (some [])) → Code.ret.wpIn F n P Q { a with defers := { target := .collected D, args := #[] } :: a.defers } W) :
    (Code.rangeFunc g ps assign body).wpIn F n P Q a w := by
  refine wpIn_rangeFunc fun fn hfn => ?_
  rw [hro]
  obtain ⟨rc, hrc⟩ : ∃ rc : LoopState → Option Code → Loop, rc = fun st pe => { state := st, pending := pe, fn, tmps := a.tmps, params := ps, assign, body, defers := w.heap.size } := ⟨_, rfl⟩
  have hB1 : Blocks w.heap.size (rc .ready none) ((w.alloc (.deferred (some []))).alloc (.loop (rc .ready none))) := by
    refine ⟨?_, (Below.heap_alloc _ _ _ (by simp)).trans (World.alloc_heap_new w _)⟩
    have := World.alloc_heap_new (w.alloc (.deferred (some []))) (.loop (rc .ready none))
    rwa [World.size_alloc] at this
  have hI1 := hI.lay (.loop (rc .ready none)) (hI.lay (.deferred (some [])) h0)
  have hlow : Below w0.heap.size w0 ((w.alloc (.deferred (some []))).alloc (.loop (rc .ready none))) := hb0.trans ((((Below.refl _ w).alloc (Nat.le_refl _) _).alloc (by simp) _).mono hb0.size)
  have hsize : ((w.alloc (.deferred (some []))).alloc (.loop (rc .ready none))).heap.size = w.heap.size + 2 := by simp
  refine ⟨w.heap.size + 1, [{ target := .collected w.heap.size, args := #[] }], (w.alloc (.deferred (some []))).alloc (.loop (rc .ready none)), { target := .fn (.func gf) lb, args := #[.func (.yield (w.heap.size + 1)) #[] #[]] }, (w.alloc (.deferred (some []))).alloc (.loop (rc .ready none)), gf,
    #[.func (.yield (w.heap.size + 1)) #[] #[]] ++ lb, (w.alloc (.deferred (some []))).alloc (.loop (rc .ready none)), by rw [hrc]; exact run_enterLoop_outer _ _ _ _ _, ?_, ?_, ?_, fun _ => h1, ?_⟩
  · simp only [resolve, hg]
    simp [go_sem]
  · intro f' hf'
    simp [Target.leads] at hf'
    subst hf'
    exact hFg
  · simp [invoke, go_sem, eg]
  · generalize (w.alloc (.deferred (some []))).alloc (.loop (rc .ready none)) = W1 at hB1 hI1 hlow hsize ⊢
    have widen : ∀ {A : World} {row : Option Nat}, (∀ j, row = some j → W1.heap.size ≤ j ∧ ∃ o : Obj, A.heap[j]? = some o ∧ Obj.turns T o) → (∀ j, row = some j → w.heap.size ≤ j ∧ ∃ o : Obj, A.heap[j]? = some o ∧ Obj.apart T o) := fun hr j e => by
      obtain ⟨hj, o, ho, hw⟩ := hr j e
      exact ⟨by omega, o, ho, hw.elim (fun h => .inl (Obj.not_cells_of_walk h)) .inr⟩
    refine (hseq (w.heap.size + 1) (fun pre W => I pre W ∧ Blocks w.heap.size (rc .ready none) W) (fun pre W => Ix pre W ∧ Blocks w.heap.size (rc .done (some .ret)) W) W1 hlow
      (fun s A B row hs hgr hr => ⟨hI s A B row hs.1 hgr (widen hr), hs.2.step hgr hr⟩)
      (fun s A B row hs hgr hr => ⟨hIx s A B row hs.1 hgr (widen hr), hs.2.step hgr hr⟩) ?_ ⟨hI1, hB1⟩).mono ?_
    · rintro k x W hkN hx ⟨hi, hbk⟩
      have hy := run_yield (P := P) (args := encs x) hbk.1 (by rw [hrc]; exact hps x)
      rw [hrc] at hy
      refine ⟨fn, _, assign, body, hy, roundIn_of_wpIn hfn (hassign _ k x W _ hkN hx hi (fun a' W' hkf0 hkp0 hx0 hi0 hax0 => ⟨_, run_beginRound (hbk.past hkf0).1 (by rw [hrc]), ?_⟩))⟩
      have hbk0 := hbk.past hkf0
      have hbz := hbk0.turn { rc .ready none with state := .busy }
      have hkz : Kp W (W'.putObj (w.heap.size + 1) (.loop { rc .ready none with state := .busy })) := hKt hkp0 (hKb _ _ _ _ (by omega) hbk0.1 rfl rfl)
      refine wpIn_mono (hbody _ k x a' _ hkN (hXs _ _ _ _ _ _ hx0 (by omega) hbk0.1 rfl) (hI.put _ hi0 (by omega) hbk0.1 rfl) (hAx _ _ _ _ _ _ hax0 (by omega) hbk0.1 rfl)) ?_
      rintro e a3 W3 hp
      cases e with
      | normal =>
        obtain ⟨hkf, hkp, hi3⟩ := hp
        have hb3 := hbz.past hkf
        have hr := run_endRound (P := P) none hb3.1
        refine ⟨_, _, hr, .inl ⟨rfl, ⟨hI.put _ hi3 (by omega) hb3.1 rfl, ?_⟩, hKt (hKt hkz hkp) (hKb _ _ _ _ (by omega) hb3.1 rfl rfl)⟩⟩
        rw [hrc] at hb3 ⊢
        exact hb3.turn _
      | ret =>
        obtain ⟨hkf, hi3⟩ := hp
        have hb3 := hbz.past hkf
        have hr := run_endRound (P := P) (some .ret) hb3.1
        refine ⟨_, _, hr, .inr ⟨rfl, hIx.put _ hi3 (by omega) hb3.1 rfl, ?_⟩⟩
        rw [hrc] at hb3 ⊢
        exact hb3.turn _
      | exit id => exact hp.elim
      | goto t => exact hp.elim
      | panic ch => exact hp.elim
      | outgrown => exact hp.elim
    · rintro e W2 ⟨⟨v, rfl⟩, ⟨hi, hbk⟩ | ⟨k, hkN, hi, hbk⟩⟩
      · have hr := run_endLoop (P := P) hbk.1 (by rw [hrc]; simp)
        exact ⟨none, _, by rw [hrc] at hr; exact hr, hdone _ _ (Nat.le_refl _) (hI.put _ hi (by omega) hbk.1 rfl) ((World.putObj_heap_other (by omega)).trans hbk.2)⟩
      · have hr := run_endLoop (P := P) hbk.1 (by rw [hrc]; simp)
        exact ⟨some .ret, _, by rw [hrc] at hr; exact hr, hstop _ k _ (Nat.le_refl _) hkN (hIx.put _ hi (by omega) hbk.1 rfl) ((World.putObj_heap_other (by omega)).trans hbk.2)⟩
end
end Go.Proofs.YtihbjimnjhfpeaaGreat
