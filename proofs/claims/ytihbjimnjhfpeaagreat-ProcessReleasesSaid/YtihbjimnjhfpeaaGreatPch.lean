/- Walk of a meter's run: contract. -/
import Derived.Test.YtihbjimnjhfpeaaGreatR20
namespace Go.Proofs.YtihbjimnjhfpeaaGreat
open Go.RowKit Go.Lib

/-- What run works on, with the dish D in its box at n. -/
structure RnL (c : Cn) (need : Int) (F : Nat) (lb : Array Value) (mb : Nat) (I : World → Prop) (n : Nat) (w : World) (D : Dish) (ua ub : Option Addr) (uc ud : Nat) (W : World) : Prop where
  one : W.heap[w.heap.size]? = some (.cells #[.int .i64 (c.R : Int), .int .i64 (c.L : Int), .int .i64 c.A, .int .i64 c.B, .int .i64 c.K, .int .i64 c.A2, .int .i64 c.B2, .int .i64 need, .func (.func F) #[] lb] 80 (0, 0))
  two : W.heap[w.heap.size + 1]? = some (.cells #[.slice none 0 0, .bool false, .slice none 0 0] 89 (0, 0))
  box : W.heap[n]? = some (.cells #[.slice ua D.1.1.length uc, .bool D.1.2, .slice ub D.2.length ud] 89 (0, 0))
  temps : RowI W (.slice ua D.1.1.length uc) D.1.1
  sums : RowI W (.slice ub D.2.length ud) (ivN D.2)
  inv : I W
  grow : w.grownBy W (some mb)
  lt : w.heap.size + 1 < n
theorem RnL.call {c : Cn} {need : Int} {F : Nat} {lb : Array Value} {f : Int → Nat} {lo hi : Int} {mb B0 : Nat} {I : World → Prop} {n : Nat} {w W W' : World} {D : Dish} {ua ub : Option Addr} {uc ud : Nat}
    (hR : RateOk F lb f lo hi mb B0 I) (h : RnL c need F lb mb I n w D ua ub uc ud W) (hg : W.grownBy W' (some mb)) (hI : I W') : RnL c need F lb mb I n w D ua ub uc ud W' := by
  have hM := hR.isM W h.inv
  exact ⟨(hg.block _ (lt_of_block h.one) (blk_noM hM h.one)).trans h.one, (hg.block _ (lt_of_block h.two) (blk_noM hM h.two)).trans h.two, (hg.block _ (lt_of_block h.box) (blk_noM hM h.box)).trans h.box, rowI_grown h.temps hg hM, rowI_grown h.sums hg hM, hI, Lt.grown_more h.grow hg (fun j e => by cases e; exact .inl rfl), h.lt⟩
/-- A new dish is laid into the box. -/
theorem RnL.store {c : Cn} {need : Int} {F : Nat} {lb : Array Value} {f : Int → Nat} {lo hi : Int} {mb B0 : Nat} {I : World → Prop} {n : Nat} {w W : World} {D E : Dish} {ua ub ua' ub' : Option Addr} {uc ud uc' ud' : Nat}
    (hR : RateOk F lb f lo hi mb B0 I) (h : RnL c need F lb mb I n w D ua ub uc ud W) (h0 : B0 ≤ w.heap.size) (ht : RowI W (.slice ua' E.1.1.length uc') E.1.1) (hs : RowI W (.slice ub' E.2.length ud') (ivN E.2)) :
    RnL c need F lb mb I n w E ua' ub' uc' ud' (((W.setCell ⟨n, 0, none⟩ (.slice ua' E.1.1.length uc')).setCell ⟨n, 1, none⟩ (.bool E.1.2)).setCell ⟨n, 2, none⟩ (.slice ub' E.2.length ud')) := by
  have h1 := h.lt
  obtain ⟨e1, e2, e3⟩ := set3 (y0 := .slice ua' E.1.1.length uc') (y1 := .bool E.1.2) (y2 := .slice ub' E.2.length ud') h.box
  have hg := set3_grown (W := W) (b := n) (y0 := .slice ua' E.1.1.length uc') (y1 := .bool E.1.2) (y2 := .slice ub' E.2.length ud')
  exact ⟨(e2 _ (by omega)).trans h.one, (e2 _ (by omega)).trans h.two, e1, rowI_same ht fun b o x hx => e2 _ (box3_noInt h.box hx), rowI_same hs fun b o x hx => e2 _ (box3_noInt h.box hx), hR.keep _ _ _ h.inv hg (fun j e => by cases e; omega), Lt.grown_more h.grow hg (fun j e => by cases e; exact .inr (by omega)), h1⟩
theorem RnL.facts {c : Cn} {need : Int} {F : Nat} {lb : Array Value} {mb : Nat} {I : World → Prop} {n : Nat} {w W : World} {D : Dish} {ua ub : Option Addr} {uc ud : Nat} (h : RnL c need F lb mb I n w D ua ub uc ud W) :
    (W.cell? ⟨w.heap.size, 0, none⟩ = some (.int .i64 (c.R : Int)) ∧ W.cell? ⟨w.heap.size, 1, none⟩ = some (.int .i64 (c.L : Int)) ∧ W.cell? ⟨w.heap.size, 2, none⟩ = some (.int .i64 c.A) ∧ W.cell? ⟨w.heap.size, 3, none⟩ = some (.int .i64 c.B) ∧ W.cell? ⟨w.heap.size, 4, none⟩ = some (.int .i64 c.K) ∧ W.cell? ⟨w.heap.size, 5, none⟩ = some (.int .i64 c.A2) ∧ W.cell? ⟨w.heap.size, 6, none⟩ = some (.int .i64 c.B2) ∧ W.cell? ⟨w.heap.size, 7, none⟩ = some (.int .i64 need) ∧ W.cell? ⟨w.heap.size, 8, none⟩ = some (.func (.func F) #[] lb)) ∧
    (W.cell? ⟨n, 0, none⟩ = some (.slice ua D.1.1.length uc) ∧ W.cell? ⟨n, 1, none⟩ = some (.bool D.1.2) ∧ W.cell? ⟨n, 2, none⟩ = some (.slice ub D.2.length ud)) ∧ (W.frozen? ⟨n, 0, none⟩ = false ∧ W.frozen? ⟨n, 1, none⟩ = false ∧ W.frozen? ⟨n, 2, none⟩ = false) ∧ n < W.heap.size :=
  ⟨⟨cell_of_row _ _ 0 _ _ _ h.one, cell_of_row _ _ 1 _ _ _ h.one, cell_of_row _ _ 2 _ _ _ h.one, cell_of_row _ _ 3 _ _ _ h.one, cell_of_row _ _ 4 _ _ _ h.one, cell_of_row _ _ 5 _ _ _ h.one, cell_of_row _ _ 6 _ _ _ h.one, cell_of_row _ _ 7 _ _ _ h.one, cell_of_row _ _ 8 _ _ _ h.one⟩, ⟨cell_of_row _ _ 0 _ _ _ h.box, cell_of_row _ _ 1 _ _ _ h.box, cell_of_row _ _ 2 _ _ _ h.box⟩, ⟨frozen_of_row _ _ 0 _ _ h.box, frozen_of_row _ _ 1 _ _ h.box, frozen_of_row _ _ 2 _ _ h.box⟩, lt_of_block h.box⟩

set_option maxRecDepth 100000 in
set_option maxHeartbeats 8000000 in
theorem mrun_any (c : Cn) (need t : Int) (F : Nat) (lb : Array Value) (f : Int → Nat) (lo hi : Int) (mb B0 : Nat) (I : World → Prop) (v : Value) (l : List Int) (w : World) (hR : RateOk F lb f lo hi mb B0 I) (hv : c.V) (ho : okT t = true) (hol : okL l = true) (hI : I w) (hl : RowI w v l) (hlen : l.length ≤ 100000)
    (hbt : lo ≤ t ∧ t ≤ hi) (hbl : ∀ b ∈ l, lo ≤ b ∧ b ≤ hi) :
    Calls Tryz.prog 34 #[.agg #[.int .i64 (c.R : Int), .int .i64 (c.L : Int), .int .i64 c.A, .int .i64 c.B, .int .i64 c.K, .int .i64 c.A2, .int .i64 c.B2, .int .i64 need, .func (.func F) #[] lb], .int .i64 t, v] w (DishG I mb (dishR c f (dish0 c t) l) w) := by
  have h0 := hR.le w hI
  have H0 := hid h0
  have HRR := hid hR
  obtain ⟨a0, b', o', cap, rfl, ha, hc, _⟩ := hl.form
  have HC := hid (fun W (g : w.grownBy W (some mb)) j (hj : j < l.length) => Lt.grown_cell g (World.block_lt_of_cell? w ⟨b', o' + j, none⟩ (hc j hj)) (cell_noM (hR.isM w hI) (hc j hj)) (hc j hj))
  have HA := hid ha
  have HBG := hid (fun W => begin_any c need t F lb W hv ho)
  have HGD := hid (fun k => (dish0_good (c := c) ho).run (f := f) (l := l.take k) hv.ok (List.all_eq_true.2 fun x hx => List.all_eq_true.1 hol x (List.mem_of_mem_take hx)))
  have HAF := hid (fun k (hk : k < l.length) (D : Dish) (hD : D = dishR c f (dish0 c t) (l.take k)) (ua ub : Option Addr) (uc ud : Nat) (W : World) (hIW : I W) (ht : RowI W (.slice ua D.1.1.length uc) D.1.1) (hs : RowI W (.slice ub D.2.length ud) (ivN D.2)) => mafter_any c need l[k] F lb f lo hi mb B0 I D ua ub uc ud W hR hv (by rw [hD]; exact HGD.out k) (okL_all hol k hk) hIW ht hs (by
      rw [hD, dishR_body]
      have hm := hbl l[k] (List.getElem_mem hk)
      refine tickS_bd hv.ok ?_ (runS_bd hv.ok _ _ ?_ ?_ ?_) hm
      · have := (bodyV_iff.1 (HGD.out k).body).1; rwa [dishR_body] at this
      · simp [dish0, evB]
      · intro x hx; have := List.eq_of_mem_replicate hx; omega
      · intro x hx; exact hbl x (List.mem_of_mem_take hx)))
  have HDS := hid (fun k (hk : k < l.length) => dishR_succ c f (dish0 c t) l k hk)
  have HI := hid (fun W (g : Below w.heap.size w W) => hR.below hI g)
  have HS := hid (b2_start (w := w) (T1 := 80) (T2 := 89) (A := #[.int .i64 (c.R : Int), .int .i64 (c.L : Int), .int .i64 c.A, .int .i64 c.B, .int .i64 c.K, .int .i64 c.A2, .int .i64 c.B2, .int .i64 need, .func (.func F) #[] lb]) (B := #[.slice none 0 0, .bool false, .slice none 0 0]))
  clear h0 hR hl hI hv ho hol hbt hbl ha hc
  go_enter Tryz.func34, Tryz.ntmps34
  go_wp2_with fail
  refine (HBG.out _).mono ?_
  rintro e w1 ⟨ua, ub, uc, ud, rfl, ht, hs, hb⟩
  have H1 := hid (HS.out.keep hb)
  have HRL : Hid (RnL c need F lb mb I w1.heap.size w (dish0 c t) ua ub uc ud (w1.alloc (.cells #[.slice ua (dish0 c t).1.1.length uc, .bool (dish0 c t).1.2, .slice ub (dish0 c t).2.length ud] 89))) := by
    have hba := (Below.refl _ w1).alloc (Nat.le_refl _) (.cells #[.slice ua (dish0 c t).1.1.length uc, .bool (dish0 c t).1.2, .slice ub (dish0 c t).2.length ud] 89)
    have h2 := H1.out.keep hba
    exact ⟨h2.one, h2.two, heap_alloc_new w1 _, ht.keep hba, hs.keep hba, HI.out _ h2.low, Lt.gbelow h2.low, H1.out.lt⟩
  clear ht hs hb H1 HI HBG HS
  go_wp2_with fail
  generalize w1.heap.size = n at HRL ⊢
  have HD0 := hid (dishR_nil c f (dish0 c t))
  go_loopw [15] (fun x wr => ∃ k : Nat, k ≤ l.length ∧ x = .int .i64 (k : Int) ∧ ∃ ua ub uc ud, Hid (RnL c need F lb mb I n w (dishR c f (dish0 c t) (l.take k)) ua ub uc ud wr)) (fun x _ => l.length - (intOf x).toNat)
  case atStart => exact ⟨0, Nat.zero_le _, rfl, ua, ub, uc, ud, HRL⟩
  case round =>
    obtain ⟨k, hk, rfl, ua, ub, uc, ud, hRL⟩ := hrel
    by_cases hlt : k < l.length
    · have hlt' : (k : Int) < l.length := by omega
      have haa : a0 = some ⟨b', o', none⟩ := HA.out.resolve_left (fun e => by rw [e] at hlt; simp at hlt)
      subst haa
      have ex := HC.out _ hRL.out.grow k hlt
      have HAF2 := hid (HAF.out k hlt _ rfl)
      have HDS2 := hid (HDS.out k hlt)
      have HLT := hid hlt
      generalize l[k] = b at ex HAF2 HDS2
      generalize dishR c f (dish0 c t) (l.take k) = D at *
      obtain ⟨⟨m0, m1, m2, m3, m4, m5, m6, m7, m8⟩, ⟨d0, d1, d2⟩, ⟨f0, f1, f2⟩, hz⟩ := hRL.out.facts
      clear hlt
      go_wp2_with fail
      refine (HAF2.out ua ub uc ud _ hRL.out.inv hRL.out.temps hRL.out.sums).mono ?_
      rintro e w3 ⟨ua', ub', uc', ud', rfl, ht3, hs3, hi3, hg3⟩
      rw [← HDS2.out] at ht3 hs3 ⊢
      have HR3 := hid (hRL.out.call HRR.out hg3 hi3)
      have HST := hid (HR3.out.store HRR.out H0.out ht3 hs3)
      clear m0 m1 m2 m3 m4 m5 m6 m7 m8 d0 d1 d2 f0 f1 f2 hz ht3 hs3 hi3 hg3 hRL
      obtain ⟨_, ⟨d0, d1, d2⟩, ⟨f0, f1, f2⟩, hz⟩ := HR3.out.facts
      go_wp2_with fail
      go_roundw
      case rel => exact ⟨k + 1, HLT.out, by go_num, ua', ub', uc', ud', HST⟩
      case measure => have := HLT.out; simp [intOf]; omega
    · obtain rfl : k = l.length := by omega
      rw [List.take_length] at hRL
      generalize dishR c f (dish0 c t) l = D at *
      obtain ⟨_, ⟨d0, d1, d2⟩, _, hz⟩ := hRL.out.facts
      have t0 := cell_of_row _ _ 0 _ _ _ hRL.out.two
      have t1 := cell_of_row _ _ 1 _ _ _ hRL.out.two
      have t2 := cell_of_row _ _ 2 _ _ _ hRL.out.two
      have f0 := frozen_of_row _ _ 0 _ _ hRL.out.two
      have f1 := frozen_of_row _ _ 1 _ _ hRL.out.two
      have f2 := frozen_of_row _ _ 2 _ _ hRL.out.two
      simp only [List.getElem?_toArray, List.getElem?_cons_zero, List.getElem?_cons_succ] at t0 t1 t2
      have hz2 := lt_of_block hRL.out.two
      clear hk
      go_wp2_with fail
      have HST := hid (set3 (y0 := (.slice ua D.1.1.length uc)) (y1 := (.bool D.1.2)) (y2 := (.slice ub D.2.length ud)) hRL.out.two)
      have HGR := hid (set3_grown (W := wr) (b := w.heap.size + 1) (y0 := (.slice ua D.1.1.length uc)) (y1 := (.bool D.1.2)) (y2 := (.slice ub D.2.length ud)))
      obtain ⟨W9, hW9⟩ : ∃ W9 : World, W9 = ((wr.setCell ⟨w.heap.size + 1, 0, none⟩ (.slice ua D.1.1.length uc)).setCell ⟨w.heap.size + 1, 1, none⟩ (.bool D.1.2)).setCell ⟨w.heap.size + 1, 2, none⟩ (.slice ub D.2.length ud) := ⟨_, rfl⟩
      rw [← hW9] at HST HGR ⊢
      clear hW9
      obtain ⟨e1, e2, e3⟩ := HST.out
      have hr9 : RowI W9 (.slice ua D.1.1.length uc) D.1.1 := rowI_same hRL.out.temps fun b o x hx => e2 _ (box3_noInt hRL.out.two hx)
      have hs9 : RowI W9 (.slice ub D.2.length ud) (ivN D.2) := rowI_same hRL.out.sums fun b o x hx => e2 _ (box3_noInt hRL.out.two hx)
      have hi9 : I W9 := HRR.out.keep _ _ _ hRL.out.inv HGR.out (fun j e => by cases e; have := H0.out; omega)
      have hg9 := Lt.grown_more hRL.out.grow HGR.out (fun j e => by cases e; exact .inr (by omega))
      have HE := hid (And.intro hr9 (And.intro hs9 (And.intro hi9 hg9)))
      have s0 := cell_of_row _ _ 0 _ _ _ e1
      have s1 := cell_of_row _ _ 1 _ _ _ e1
      have s2 := cell_of_row _ _ 2 _ _ _ e1
      simp only [List.getElem?_toArray, List.getElem?_cons_zero, List.getElem?_cons_succ] at s0 s1 s2
      refine bodyPost_ret (v := .agg #[.slice ua D.1.1.length uc, .bool D.1.2, .slice ub D.2.length ud]) ?_ rfl ?_
      · simp [results, Tryz.results34, go_sem, s0, s1, s2]
      · obtain ⟨h1, h2, h3, h4⟩ := HE.out
        exact ⟨ua, ub, uc, ud, rfl, h1, h2, h3, h4⟩
end Go.Proofs.YtihbjimnjhfpeaaGreat
