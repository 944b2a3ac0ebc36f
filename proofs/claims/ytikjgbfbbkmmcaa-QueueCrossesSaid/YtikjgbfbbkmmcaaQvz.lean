/- Walk of Plan where all is in its range: contract. -/
import Derived.Test.YtikjgbfbbkmmcaaQvy
import Derived.Test.YtikjgbfbbkmmcaaQwa
namespace Go.Proofs.Ytikjgbfbbkmmcaa
open Go.RowKit Go.Shelf Rt
attribute [local go_sem] Oper.semAt_some

theorem three_laid' (W : World) (a b c : Obj) : (((W.alloc a).alloc b).alloc c).heap[W.heap.size]? = some a ∧ (((W.alloc a).alloc b).alloc c).heap[W.heap.size + 1]? = some b ∧ (((W.alloc a).alloc b).alloc c).heap[W.heap.size + 1 + 1]? = some c ∧ Below W.heap.size W (((W.alloc a).alloc b).alloc c) ∧ (((W.alloc a).alloc b).alloc c).heap.size = W.heap.size + 3 := by
  have h2 := heap_alloc_new ((W.alloc a).alloc b) c
  rw [World.size_alloc, World.size_alloc] at h2
  exact ⟨(Below.heap_alloc _ _ _ (by simp; omega)).trans ((Below.heap_alloc _ _ _ (by simp)).trans (heap_alloc_new W _)), (Below.heap_alloc _ _ _ (by simp)).trans (heap_two' W _ _), h2, (((Below.refl _ _).alloc (Nat.le_refl _) _).alloc (by simp) _).alloc (by simp; omega) _, by simp⟩
set_option maxRecDepth 20000 in
set_option maxHeartbeats 8000000 in
theorem plan_ok (v : Value) (l : List Bsk) (M : Nat) (p wt : Int) (w : World) (hr : RowE encB w v l) (hs : ∀ b ∈ l, b.pr.size ≤ maxLen) (hb : bskQ l = true) (hn : numsQ M p wt = true) :
    Calls Try.prog 22 #[v, .int .i64 (M : Nat), .int .i64 p, .int .i64 wt] w (PlanP l M p wt w) := by
  have hS : SvOk l M p := by
    obtain ⟨k1, k2, _, k4⟩ := bskQ_iff.1 hb
    unfold numsQ at hn
    simp only [Bool.and_eq_true, inQ_iff] at hn
    exact ⟨k1, k2, k4, by omega, by omega, by omega, by omega⟩
  have hwt : 0 ≤ wt ∧ wt ≤ 100000000 := by
    unfold numsQ at hn
    simp only [Bool.and_eq_true, inQ_iff] at hn
    exact hn.2
  have HS := hid hS
  have HROW := hid hr
  have HRK := hid (fun w1 (g : Below w.heap.size w w1) => hr.keep g)
  have HV := hid (fun w1 (g : Below w.heap.size w w1) => valid_any _ l w1 (hr.keep g) hs)
  have HBQ := hid hb; have HNQ := hid hn
  rw [hb] at HV
  have hm := hr.most
  unfold maxLen at hm
  obtain ⟨va, vc, rfl⟩ := hr.shape
  obtain ⟨n, hnl⟩ : ∃ n, n = l.length := ⟨_, rfl⟩
  have HN := hid hnl
  rw [← hnl] at hm HROW HRK HV ⊢
  have HX := hid (plB_start va n vc M wt w)
  have H1 := hid (qcount_any M); have H2 := hid (qcook_any p); have H3 := hid (qwait_any wt)
  unfold numsQ at hn
  simp only [Bool.and_eq_true] at hn
  rw [hn.1.1] at H1
  rw [hn.1.2] at H2
  rw [hn.2] at H3
  have HC1 := H1; have HC2 := H2; have HC3 := H3
  clear hr hs hb hn hS hnl H1 H2 H3
  refine (callsIn_wide (n := 10)).1 ?_
  refine callsIn_of_wp_marks Try.func22 rfl trivial ?_ rfl
  simp only [Try.ntmps22, List.size_toArray, List.length_cons, List.length_nil, Nat.reduceAdd, Nat.reduceSub, Array.replicate_succ, Array.replicate_zero, List.push_toArray, List.append_toArray, List.nil_append, List.cons_append]
  obtain ⟨⟨x0, x1, x2, x3⟩, ⟨y0, y1, y2⟩, ⟨z0, z1, z2, z3⟩, hz⟩ := HX.out.facts
  gi_wp2
  refine ⟨trivial, ?_⟩
  refine (callsIn_wide.2 (HV.out _ HX.out.low)).mono ?_
  rintro e w1 ⟨rfl, hb1⟩
  have H1 := hid (HX.out.keep hb1)
  clear hb1 HX HV x0 x1 x2 x3 y0 y1 y2 z0 z1 z2 z3 hz
  obtain ⟨⟨x0, x1, x2, x3⟩, ⟨y0, y1, y2⟩, ⟨z0, z1, z2, z3⟩, hz⟩ := H1.out.facts
  gi_wp2
  refine ⟨trivial, ?_⟩
  refine (callsIn_wide.2 (HC1.out _)).mono ?_
  rintro e w2 ⟨rfl, rfl⟩
  gi_wp2
  refine ⟨trivial, ?_⟩
  refine (callsIn_wide.2 (HC2.out _)).mono ?_
  rintro e w2 ⟨rfl, rfl⟩
  gi_wp2
  refine ⟨trivial, ?_⟩
  refine (callsIn_wide.2 (HC3.out _)).mono ?_
  rintro e w2 ⟨rfl, rfl⟩
  gi_wp2
  refine ⟨trivial, ?_⟩
  refine (callsIn_wide.2 (served_any va n vc M p _)).mono ?_
  rintro e w5 ⟨rfl, rfl⟩
  clear y0 y1 y2 z0 z1 z2 z3 x0 x1 x2 x3
  gi_wp2
  obtain ⟨hlb, hmb, hqb, hB5, z5⟩ := three_laid' w1 (.cells #[.slice va n vc] 22) (.cells #[.int .i64 (M : Nat)] 3) (.cells #[.int .i64 p] 3)
  generalize ((w1.alloc (.cells #[.slice va n vc] 22)).alloc (.cells #[.int .i64 (M : Nat)] 3)).alloc (.cells #[.int .i64 p] 3) = W5 at hlb hmb hqb hB5 z5 ⊢
  have H5 := H1.out.keep hB5
  have hz1 : w.heap.size + 1 + 1 + 1 + 1 + 1 < w1.heap.size := lt_at' H1.out.be
  have hF0 : PlI va n vc M wt w (w1.heap.size + 3) [] W5 := ⟨⟨_, H5, ownE_nil _ _ _ _⟩, by omega⟩
  have hI : ItV (.slice va n vc) M p w (w1.heap.size + 1) w1.heap.size (w1.heap.size + 1 + 1) (w1.heap.size + 3) W5 := ⟨hmb, hlb, hqb, fun j hj => H5.low.block j hj, ⟨by omega, by omega, by omega, by omega⟩, by omega⟩
  clear H5 hlb hmb hqb hB5 H1 HC1 HC2 HC3
  refine range_boxed2 (T := TV) (F := Fence.wide) (n := 10) (xs := fcL (caQ l) M p n) (encs := encY) (Kp := KpV (w1.heap.size + 3) (w.heap.size + 1 + 1 + 1) (w.heap.size + 1 + 1 + 1)) (w0 := W5) rfl (by omega) (gf := 78) (lb := #[.pointer (some ⟨w1.heap.size + 1, 0, none⟩), .pointer (some ⟨w1.heap.size, 0, none⟩), .pointer (some ⟨w1.heap.size + 1 + 1, 0, none⟩)]) rfl trivial (enters_of Try.func78 (by kernel_rfl) rfl)
    (fun l0 I Ix W hW hI1 hIx1 hY h0 => by
      have h := served_run l0 (.slice va n vc) l M p w (w1.heap.size + 1) w1.heap.size (w1.heap.size + 1 + 1) (w1.heap.size + 3) (w.heap.size + 1 + 1 + 1) (w.heap.size + 1 + 1 + 1) W.heap.size I Ix HS.out HROW.out ⟨⟨by omega, by omega⟩, ⟨by omega, by omega⟩, ⟨by omega, by omega⟩, by omega, by omega⟩ hI1 (by rw [← HN.out]; exact hY) W (hI.past hW.size (fun j hj => hW.block j (by omega))) (Nat.le_refl _) h0
      rw [← HN.out] at h
      exact h)
    (fun h k => h.trans k) (fun W l o o' hl h hc _ => KpV.put (by omega) h hc) (Below.refl _ _) (fun _ => rfl)
    (fun pre W => PlI va n vc M wt w (w1.heap.size + 3) pre W ∧ ∀ k, k < pre.length → fcT (caQ l) M p k ≤ caQ l k + wt)
    (fun pre W => ∃ f k : Nat, PlX f k w W ∧ k < l.length ∧ RsnP (caQ l) M p f k ∧ caQ l k + wt < fcT (caQ l) M p k) ?hI ?hIx ⟨hF0, fun k h => absurd h (Nat.not_lt_zero _)⟩
    (fun y a' W => ∃ nb : Nat, w1.heap.size + 3 ≤ nb ∧ W.heap[nb]? = some (.cells (sstC y) 57 (0, 0)) ∧ (∀ xv, W.cell? ⟨w.heap.size + 1 + 1 + 1, 0, none⟩ = some xv → xv.ownBlock ≠ some nb) ∧ a' = { tmps := #[.slice va n vc, .int .i64 (M : Int), .int .i64 p, .int .i64 wt, .pointer (some ⟨w.heap.size, 0, none⟩), .pointer (some ⟨w.heap.size + 1, 0, none⟩), undef, .pointer (some ⟨w.heap.size + 1 + 1, 0, none⟩), .pointer (some ⟨w.heap.size + 1 + 1 + 1, 0, none⟩), .pointer (some ⟨w.heap.size + 1 + 1 + 1 + 1, 0, none⟩), .pointer (some ⟨w.heap.size + 1 + 1 + 1 + 1 + 1, 0, none⟩), .pointer (some ⟨nb, 0, none⟩), .slice va n vc, .bool true, .bool false, undef, .int .i64 (M : Int), .bool true, .bool false, .bool false, .int .i64 p, .bool true, .bool false, .bool false, .bool false, .int .i64 wt, .bool true, .bool false, .bool false, undef, .slice va n vc, .int .i64 (M : Int), .int .i64 p, .func (.func 78) #[] #[.pointer (some ⟨w1.heap.size + 1, 0, none⟩), .pointer (some ⟨w1.heap.size, 0, none⟩), .pointer (some ⟨w1.heap.size + 1 + 1, 0, none⟩)], .agg (sstC y), undef, undef, undef, undef, undef, undef, undef, undef, undef, undef, undef, undef, undef, undef, undef, undef, undef, undef, undef, undef, undef], defers := [] }) ?hAx ?assign ?body ?done ?stop
  case hI =>
    rintro s A A' row ⟨h1, h2⟩ hg hr
    exact ⟨h1.turn (by omega) hg hr, h2⟩
  case hIx =>
    rintro s A A' row ⟨f, k, h1, h2⟩ hg hr
    exact ⟨f, k, h1.turn (by omega) hg hr, h2⟩
  case hAx =>
    rintro y a' W j o o' ⟨nb, h1, h2, h3, h4⟩ hj ho hc
    refine ⟨nb, h1, (World.putObj_heap_other (by rintro rfl; rw [h2] at ho; cases ho; cases hc)).trans h2, fun xv hx => h3 xv ?_, h4⟩
    rw [← hx]
    exact (World.cell?_of_block (World.putObj_heap_other (by show w.heap.size + 1 + 1 + 1 ≠ j; omega))).symm
  case assign =>
    rintro l' k y W K0 hx ⟨hi, ht⟩ hK0
    simp only [encY]
    gi_wp2_with (refine wpListIn_store_whole rfl 57 _ _ rfl W.heap.size (sstC y) rfl rfl 57 _ (heap_alloc_new W _) (infoSstA y) (by rfl) (sstC_one y) ?_; generalize hW : World.setRow _ _ _ = W6; have H6 := hid (laidQ hW); clear hW)
    refine hK0 _ _ (keeps_below H6.out.2.1) (kpV_below hi.le H6.out.2.1) ⟨hi.keep H6.out.2.1, ht⟩ ⟨W.heap.size, hi.le, H6.out.1, fun xv hxv e => ?_, rfl⟩
    obtain ⟨xv', h1, h2⟩ := hi.ex
    have h3 := (h1.keep H6.out.2.1).facts.1.2.2.2
    rw [hxv] at h3
    cases h3
    have := (World.ownsRow.lt h2 _ e).2
    omega
  case body =>
    rintro l' k y a' W hx ⟨hi, ht⟩ ⟨nb, hnb, hgn, hxn, rfl⟩
    have hkn : k < n := by have := (List.getElem?_eq_some_iff.1 hx).1; rwa [fcL_len] at this
    have hks : k < l.length := by rw [← HN.out]; exact hkn
    rw [fcL_get _ _ _ hkn] at hx
    obtain rfl : fcK (caQ l) M p k = y := Option.some.inj hx
    rw [fcL_take _ _ _ (by omega)] at hi ht
    rw [fcL_take _ _ _ (show k + 1 ≤ n by omega), fcL_succ]
    rw [fcL_len] at ht
    obtain ⟨xv, hpl, hown⟩ := hi.ex
    have hne := hxn _ hpl.facts.1.2.2.2
    obtain ⟨xa, xc, rfl⟩ := hown.shape
    rw [fcL_len] at hpl hown hne
    obtain ⟨i0, hiS, hz0, hz1S, hz2⟩ := infoSst
    have HPL := hid hpl; have HOW := hid hown; have HGN := hid hgn; have HLE := hid hi.le; have HTM := hid ht; have HNE := hid hne; have HKS := hid hks
    have HFAR := hid (HS.out.far hks)
    have hcl := caQ_most HS.out.ok k
    have hcz := caQ_nonneg HS.out.ok k
    have x3 := hpl.facts.1.2.2.2
    have HSY := hid (show sstC (fcK (caQ l) M p k) = #[.int .i64 (k : Nat), .int .i64 (fcV (caQ l) M p k : Nat), .int .i64 (fcT (caQ l) M p k)] from rfl)
    have HOA : Hid (OwnE encS (W.alloc (.cells #[.int .i64 (k : Nat), .int .i64 (fcV (caQ l) M p k : Nat), .int .i64 (fcT (caQ l) M p k)] 57)) (w1.heap.size + 3) 57 (.slice xa k xc) (fcL (caQ l) M p k)) := hown.keep ((Below.refl _ _).alloc (Nat.le_refl _) _)
    have HNW : Hid (∀ j u, (encS.cs (fcK (caQ l) M p k))[j]? = some u → (W.alloc (.cells #[.int .i64 (k : Nat), .int .i64 (fcV (caQ l) M p k : Nat), .int .i64 (fcT (caQ l) M p k)] 57)).cell? ((⟨W.heap.size, 0, none⟩ : Addr).add j) = some u) := encN_new (W := W) (cs := encS.cs (fcK (caQ l) M p k)) rfl
    have HLN := hid (show (fcL (caQ l) M p k).length = k from fcL_len _ _ _ _)
    have hk5 : k < 500 := by have := HS.out.len; omega
    clear hpl hown hgn hx hi ht hxn hne hks
    unfold OwnE at HOA
    rw [HLN.out] at HOA
    dsimp only
    rw [HSY.out] at HGN ⊢
    gi_wp2_with (first
      | (refine wpListIn_load_whole rfl 57 _ rfl nb rfl 57 #[.int .i64 (k : Nat), .int .i64 (fcV (caQ l) M p k : Nat), .int .i64 (fcT (caQ l) M p k)] (0, 0) _ HGN.out Try.underlying57 rfl (infoSstA (fcK (caQ l) M p k)) ?_)
      | (refine wpListIn_append_where _ rfl _ _ 30 rfl (w1.heap.size + 3) 57 i0 (.agg #[.int .i64 0, .int .i64 0, .int .i64 0]) 3 24 Try.underlying30 hiS hz0 hz1S hz2 rfl (by decide) (.slice xa k xc) k (evs encS (fcL (caQ l) M p k)) rfl HOA.out ⟨W.heap.size, 0, none⟩ 1 1 (encS.cs (fcK (caQ l) M p k)) rfl rfl HNW.out (encS.one _) (by decide) (by unfold maxLen; omega) (by omega) (by have := HLE.out; simp; omega) ?_; intro v8 w8 hown8 hgrow8 _; have HO8 : Hid (OwnE encS w8 (w1.heap.size + 3) 57 v8 (fcL (caQ l) M p k ++ [fcK (caQ l) M p k])) := OwnE.app (by rw [HLN.out]; exact hown8); have HG8 := hid hgrow8; obtain ⟨xb, xd, rfl⟩ := HO8.out.shape; rw [List.length_append, HLN.out] at HO8 ⊢; simp only [List.length_singleton] at HO8 ⊢; have HMID := hid (pl_mid (v' := .slice xb (k + 1) xd) HPL.out HOW.out (by omega) hgrow8 HGN.out HNE.out hnb); have m0 := HMID.out.1; have m1 := HMID.out.2.1; clear hown8 hgrow8))
    have hE := pl_end (B := W5.heap.size) HPL.out HOW.out HLE.out (by omega) HO8.out HG8.out
    have hnb9 := HMID.out.2.2
    rw [← fcL_succ] at hE
    generalize World.setCell w8 _ _ = W9 at hE hnb9 ⊢
    have HE := hid hE
    obtain ⟨⟨x0, x1, x2, x3'⟩, ⟨y0, y1, y2⟩, ⟨z0, z1, z2, z3⟩, hz9⟩ := hE.1.facts
    have n0c := cell_of_row _ _ 0 _ _ _ hnb9
    have n2c := cell_of_row _ _ 2 _ _ _ hnb9
    simp only [List.getElem?_toArray, List.getElem?_cons_zero, List.getElem?_cons_succ] at n0c n2c
    have HROW9 := hid (HRK.out _ hE.1.low)
    obtain ⟨b0, o0, hva, c0, c1, c2, c3⟩ := HROW9.out.bsk HKS.out
    subst hva
    rw [← caQ_at HKS.out] at c1
    have hkn' : (k : Int) < n := by omega
    have HR9 := hid (fun nq => reason_any _ _ l M p k (W9.drewN nq) (HROW9.out.keep (bdrewN (n := nq) (Below.refl _ _))) (hE.2.1.row.keep (bdrewN (n := nq) (Below.refl _ _))) HKS.out HS.out.len (by have := HS.out.m1; omega) (caQ_nonneg HS.out.ok) (caQ_mono HS.out.asc) (by have := HS.out.p1; omega))
    have HLT9 := hid (fun (hl : ¬ caQ l k + wt < fcT (caQ l) M p k) => (show ∀ j, j < (fcL (caQ l) M p k ++ [fcK (caQ l) M p k]).length → fcT (caQ l) M p j ≤ caQ l j + wt from fun j hj => by
      rw [List.length_append, HLN.out, List.length_singleton] at hj
      rcases Nat.lt_succ_iff_lt_or_eq.1 hj with h | rfl
      · exact HTM.out j h
      · omega))
    have hfar := HFAR.out
    have hp1 := HS.out.p1
    obtain ⟨C, hC⟩ : ∃ C, C = caQ l k := ⟨_, rfl⟩
    obtain ⟨T, hT⟩ : ∃ T, T = fcT (caQ l) M p k := ⟨_, rfl⟩
    rw [← hC] at c1 hcl hcz HLT9
    rw [← hT] at n2c hfar HLT9 ⊢
    have HC := hid hC; have HT := hid hT
    clear hE hnb9 c0 c2 c3 hC hT HMID HG8 HOA HNW m0 m1
    by_cases hlt : C + wt < T
    · gi_wp2
      refine wpIn_region_reads (by kernel_rfl) (by kernel_rfl) (by kernel_rfl) ?_; (repeat (go_big_quiet_step (fail))); refine wpQuiet_nil ?_; intro _ hw'; obtain ⟨nq, hw''⟩ := hw'; subst hw''
      gi_wp2
      refine ⟨trivial, ?_⟩
      refine (callsIn_wide.2 (HR9.out nq)).mono ?_
      rintro e W10 ⟨⟨f, rfl, hrs⟩, hb10⟩
      have H10 := hid ((HE.out.1.keep (bdrewN (n := nq) (Below.refl _ _))).keep hb10)
      have HB10 := hid hb10
      have HRS := hid hrs
      have HLA := hid hlt
      clear x0 x1 x2 x3' y0 y1 y2 z0 z1 z2 z3 hz9 n0c n2c hb10 hrs hlt
      obtain ⟨⟨x0, x1, x2, x3'⟩, ⟨y0, y1, y2⟩, ⟨z0, z1, z2, z3⟩, hz9⟩ := H10.out.facts
      gi_wp2
      refine ⟨?_, f, k, plX_of H10.out _ _, HKS.out, HRS.out, ?_⟩
      · exact ((HE.out.2.2.1.trans (keeps_below (bdrewN (n := nq) (Below.refl _ _)))).trans (keeps_below HB10.out)).trans keeps_four
      · have h1 := HLA.out; have h2 := HC.out; have h3 := HT.out
        omega
    · have HLT := hid (HLT9.out hlt)
      clear HR9 HLT9
      gi_wp2
      refine wpIn_region_reads (by kernel_rfl) (by kernel_rfl) (by kernel_rfl) ?_; (repeat (go_big_quiet_step (fail))); refine wpQuiet_nil ?_; intro _ hw'; obtain ⟨nq, hw''⟩ := hw'; subst hw''
      gi_wp2
      refine ⟨HE.out.2.2.1.trans (keeps_below (bdrewN (n := nq) (Below.refl _ _))), HE.out.2.2.2.trans (kpV_below ?_ (bdrewN (n := nq) (Below.refl _ _))), ⟨⟨_, HE.out.1.keep (bdrewN (n := nq) (Below.refl _ _)), ?_⟩, ?_⟩, HLT.out⟩
      · exact Nat.le_trans HLE.out HE.out.2.2.1.size
      · have h := HE.out.2.1.keep (bdrewN (n := nq) (Below.refl _ _))
        rw [fcL_succ] at h
        exact h
      · exact Nat.le_trans HLE.out HE.out.2.2.1.size
  case done =>
    rintro D W hD ⟨hi, ht⟩ hW
    obtain ⟨xv, hpl, hown⟩ := hi.ex
    have hrow := hown.row
    obtain ⟨xa, xc, rfl⟩ := hown.shape
    rw [fcL_len] at hpl hrow ht
    have hrowO := hown
    rw [fcL_len] at hrowO
    have hEE : planE l M p wt = 0 := by
      unfold planE
      rw [if_neg (by rw [HBQ.out]; decide), if_neg (by rw [HNQ.out]; decide), if_pos]
      unfold timeQ
      refine decide_eq_true fun k hk => ?_
      rw [← HN.out] at hk
      have := ht k hk
      rwa [Int.toNat_natCast]
    have hEL : planL l M p wt = fcL (caQ l) M p n := by
      unfold planL
      rw [if_pos hEE, Int.toNat_natCast, ← HN.out]
    have HP := hid hpl; have HW := hid hW; have HRW := hid hrow; have HEE := hid hEE; have HEL := hid hEL
    have hDl := lt_at' hW
    obtain ⟨⟨x0, x1, x2, x3⟩, ⟨y0, y1, y2⟩, ⟨z0, z1, z2, z3⟩, hzz⟩ := hpl.facts
    clear hi ht hW hpl hown hrow hEE hEL
    have HOWX := hid hrowO
    clear hrowO
    gi_wp2
    generalize hW2 : World.setCell (World.setCell (World.setCell (World.setCell W _ _) _ _) _ _) _ _ = W2
    obtain ⟨g1, g2, g3, g4, g5, g6⟩ := pl_stored HP.out _ _ _ _ hW2
    refine leaves_marks (B := w.heap.size) [D] _ ⟨by simp, fun d hd => by rw [List.mem_singleton] at hd; subst hd; exact ⟨by omega, (g5 _ (by omega)).trans HW.out⟩⟩ fun W9 hb9 hc9 => ?_
    have e0 := cell_of_row _ _ 0 _ _ _ (hc9 _ _ _ _ g1); have e1 := cell_of_row _ _ 0 _ _ _ (hc9 _ _ _ _ g2); have e2 := cell_of_row _ _ 1 _ _ _ (hc9 _ _ _ _ g2); have e3 := cell_of_row _ _ 0 _ _ _ (hc9 _ _ _ _ g3)
    simp only [List.getElem?_toArray, List.getElem?_cons_zero, List.getElem?_cons_succ] at e0 e1 e2 e3
    refine ⟨.tuple #[.slice xa n xc, .agg #[.int .i64 0, .int .i64 0], .int .i64 0], by simp [results, Try.results22, go_sem, e0, e1, e2, e3], _, _, _, by rw [HEE.out], ?_, fun _ => ⟨rfl, rfl⟩, fun h => absurd (HEE.out.symm.trans h) (by decide), g4.trans hb9⟩
    rw [HEL.out]
    have h9 : OwnE encS W9 (w1.heap.size + 3) 57 (.slice xa n xc) (fcL (caQ l) M p n) := by
      refine ⟨HOWX.out.1, ?_⟩
      rcases HOWX.out.2 with hn | ⟨g, cap, cur, hv, hb', hgg, rest⟩
      · exact .inl hn
      · exact .inr ⟨g, cap, cur, hv, hb', hc9 _ _ _ _ (g6 _ _ _ _ (by decide) (by decide) (by decide) hgg), rest⟩
    exact h9.row
  case stop =>
    rintro D k W hD ⟨f, k', hx, hk, hrs, hla⟩ hW
    have hEE : planE l M p wt = 8 := by
      unfold planE
      rw [if_neg (by rw [HBQ.out]; decide), if_neg (by rw [HNQ.out]; decide), if_neg]
      unfold timeQ
      intro h
      have := of_decide_eq_true h k' hk
      rw [Int.toNat_natCast] at this
      omega
    have hEL : planL l M p wt = [] := by
      unfold planL
      rw [hEE, if_neg (by decide)]
    have HW := hid hW; have HX := hid hx; have HEE := hid hEE; have HEL := hid hEL
    have hDl := lt_at' hW
    clear hW hx hEE hEL
    gi_wp2
    refine leaves_marks (B := w.heap.size) [D] _ ⟨by simp, fun d hd => by rw [List.mem_singleton] at hd; subst hd; exact ⟨by omega, HW.out⟩⟩ fun W9 hb9 hc9 => ?_
    have e0 := cell_of_row _ _ 0 _ _ _ (hc9 _ _ _ _ HX.out.bx); have e1 := cell_of_row _ _ 0 _ _ _ (hc9 _ _ _ _ HX.out.bt); have e2 := cell_of_row _ _ 1 _ _ _ (hc9 _ _ _ _ HX.out.bt); have e3 := cell_of_row _ _ 0 _ _ _ (hc9 _ _ _ _ HX.out.be)
    simp only [List.getElem?_toArray, List.getElem?_cons_zero, List.getElem?_cons_succ] at e0 e1 e2 e3
    exact ⟨.tuple #[.slice none 0 0, .agg #[.int .i64 (f : Nat), .int .i64 (k' : Nat)], .int .i64 8], by simp [results, Try.results22, go_sem, e0, e1, e2, e3], _, _, _, by rw [HEE.out], by rw [HEL.out]; exact rowE_nil _ _ _ _ (by unfold maxLen; omega), fun h => absurd HEE.out h, fun _ => ⟨f, k', rfl, rfl, hk, by rw [Int.toNat_natCast]; exact hrs, by rw [Int.toNat_natCast]; exact hla⟩, HX.out.low.trans hb9⟩
end Go.Proofs.Ytikjgbfbbkmmcaa
