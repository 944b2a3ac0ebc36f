/- Walk of Follow of the reference: contract. -/
import Derived.Test.YtpkcnojcklmhmaaRq
import Derived.Test.YtpkcnojcklmhmaaRr
namespace Go.Proofs.Ytpkcnojcklmhmaa
open Go.RowKit Go.Shelf

/-- The bodies behind no, one, .., n ticks. -/
def folN (c : Cn) (x : Bd) (l : List Int) (n : Nat) : List Bd := (List.range (n + 1)).map fun k => runS c x (l.take k)
theorem folN_all (c : Cn) (x : Bd) (l : List Int) : folN c x l l.length = folL c x l := by unfold folN folL seqH; rw [List.map_map]; rfl
theorem folN_len (c : Cn) (x : Bd) (l : List Int) (n : Nat) : (folN c x l n).length = n + 1 := by simp [folN]
theorem folN_succ (c : Cn) (x : Bd) (l : List Int) (n : Nat) : folN c x l (n + 1) = folN c x l n ++ [runS c x (l.take (n + 1))] := by unfold folN; rw [List.range_succ, List.map_append]; rfl
theorem folN_at (c : Cn) (x : Bd) (l : List Int) (n k : Nat) (h : k ≤ n) : (folN c x l n)[k]'(by rw [folN_len]; omega) = runS c x (l.take k) := by simp [folN]
theorem r2_grow {w W W' : World} {A B : Array Value} {g : Nat} (h : R2 w W A B) (hg : W.grownBy W' (some g)) (hb : w.heap.size + 2 ≤ g) : R2 w W' A B :=
  ⟨(hg.block _ (lt_of_block h.can) (by intro e; cases e; omega)).trans h.can, (hg.block _ (lt_of_block h.res) (by intro e; cases e; omega)).trans h.res, h.low.grown hg h.low.size (fun j e => by cases e; omega)⟩
/-- What the region of the append stands on. -/
def RawFo (w : World) (A B : Array Value) (g n ba o : Nat) (u b t : Value) (w1 : World) : Prop :=
  w1.cell? ⟨g, n * 2, none⟩ = some u ∧ w1.cell? ⟨g, n * 2 + 1, none⟩ = some b ∧ w1.cell? ⟨ba, o + n, none⟩ = some t ∧ R2 w w1 A B
theorem RawFo.keep {w W W' : World} {A B : Array Value} {g n ba o : Nat} {u b t : Value} (h : RawFo w A B g n ba o u b t W) (hb : Below W.heap.size W W') : RawFo w A B g n ba o u b t W' :=
  ⟨keep_cell hb h.1, keep_cell hb h.2.1, keep_cell hb h.2.2.1, h.2.2.2.keep hb⟩
set_option maxRecDepth 100000 in
set_option maxHeartbeats 8000000 in
theorem rfollow_ok (c : Cn) (x : Bd) (v v2 : Value) (l : List Int) (w : World) (hv : c.V) (hb : bodyV c x.1 x.2 = true) (ho : okL l = true) (hlen : l.length ≤ 2000) (hl : RowI w v x.1) (hl2 : RowI w v2 l) :
    Calls Try.prog 18 #[.agg #[.int .i64 (c.R : Int), .int .i64 (c.L : Int), .int .i64 c.A, .int .i64 c.B, .int .i64 c.K, .int .i64 c.A2, .int .i64 c.B2], .agg #[v, .bool x.2], v2] w (FolP (folL c x l) 0 w) := by
  obtain ⟨hxl, _, hxo⟩ := bodyV_iff.1 hb
  have hx : Warm c x := ⟨hxl, okL_bd hxo⟩
  have HCHK : Hid (chkE (bothB c.R c.L c.A c.B c.K c.A2 c.B2 x.1 x.2) l = 0) := by unfold Hid; rw [bothB_cn c hv, hb]; exact chkE_ok ho (by omega)
  obtain ⟨p1, p2⟩ := hv.ok.p
  have HL := hid (fun w1 (g : Below w.heap.size w w1) => hl.keep g)
  have HL2 := hid (fun w1 (g : Below w.heap.size w w1) => hl2.keep g)
  obtain ⟨a0, cap0, rfl⟩ := hl.shape
  obtain ⟨a, ba, o, cap, rfl, ha, hcl, hbl⟩ := hl2.form
  obtain ⟨i0, hi, hz0, hz1, hz2⟩ := infoBd
  have HOK := hid hv.ok; have HX := hid hx; have HAD := hid ha; have HLB := hid (okL_bd ho)
  have HCL := hid (fun w1 (g : Below w.heap.size w w1) j h => keep_cell g (hcl j h))
  have HS := hid (r2_start (w := w) (A := #[.int .i64 (c.R : Int), .int .i64 (c.L : Int), .int .i64 c.A, .int .i64 c.B, .int .i64 c.K, .int .i64 c.A2, .int .i64 c.B2]) (R := #[.slice a0 x.1.length cap0, .bool x.2]))
  obtain ⟨q, hq⟩ : ∃ q, q = x.1.length := ⟨_, rfl⟩
  have hq0 : 0 < q ∧ q ≤ 48 := by omega
  have HLQ := hid (fun k => show (runS c x (l.take k)).1.length = q from (HX.out.run HOK.out (fun b hb => HLB.out b (List.mem_of_mem_take hb))).len.trans (by rw [hq]; exact HX.out.len.symm))
  have HWM := hid (fun k => show Warm c (runS c x (l.take k)) from HX.out.run HOK.out (fun b hb => HLB.out b (List.mem_of_mem_take hb)))
  have HR0 := hid (show folN c x l 0 = [x] by simp [folN, runS])
  have HXE := hid (show (x.1, x.2) = x from rfl)
  obtain ⟨X, hX⟩ : ∃ X, X = x.1 := ⟨_, rfl⟩
  obtain ⟨xb, hxb⟩ : ∃ X, X = x.2 := ⟨_, rfl⟩
  rw [← hX] at HL hq
  rw [← hX, ← hxb] at HXE
  rw [← hX, ← hxb, ← hq] at HS
  rw [← hX, ← hxb, ← hq]
  rw [← hq] at HL
  have HCK := hid (fun w1 (h1 : RowI w1 (.slice a0 q cap0) X) (h2 : RowI w1 (.slice a l.length cap) l) => (asked_any c.R c.L c.A c.B c.K c.A2 c.B2 w1 (.slice a0 q cap0) X xb (.slice a l.length cap) l h1 h2))
  rw [hX, hxb] at HCK
  rw [HCHK.out] at HCK
  rw [← hX, ← hxb] at HCK
  have HCP := hid (fun w1 (h1 : RowI w1 (.slice a0 q cap0) X) => copy_any (.slice a0 q cap0) X xb w1 h1 (by omega))
  rw [← hq] at HCP
  have HQX := hid hq
  clear hl hl2 ha hcl hx hb hxl hxo ho hv hX hxb hq p1 p2 HCHK
  go_enter Try.func18, Try.ntmps18
  go_wp2_with fail
  refine (HCK.out _ (HL.out _ HS.out.low) (HL2.out _ HS.out.low)).mono ?_
  rintro e w1 ⟨rfl, hb⟩
  have H1 := hid (HS.out.keep hb)
  clear hb HS
  obtain ⟨k0, k1, k2, k3, k4, k5, k6, k7, k8, k9, k10⟩ := H1.out.nine
  go_wp2_with fail
  refine (HCP.out _ (HL.out _ H1.out.low)).mono ?_
  rintro e w2 ⟨ua, uc, rfl, hri, hnew, hb⟩
  obtain ⟨r, hua, hrv, hrat⟩ := rowAt_of hri HQX.out.symm hq0.1
  have hrn := hnew _ hua
  have H2 := hid (H1.out.keep hb)
  have zz1 : w.heap.size + 2 ≤ w1.heap.size := lt_of_block H1.out.res
  have zz2 : w1.heap.size ≤ w2.heap.size := hb.size
  subst hua
  obtain rfl : uc = r.c := by injection hrv
  have hown := World.ownsRow_lit (base := w.heap.size + 2) (e := 26) (size := 2) w2 #[r.v q, .bool xb] 1 (by omega) (by simp [maxLen]) rfl
  have hbd := (show Bods (w2.alloc (.cells #[r.v q, .bool xb] 26)) (w.heap.size + 2) (.slice (some ⟨w2.heap.size, 0, none⟩) 1 1) q [(r, x)] from ⟨by rw [← HXE.out]; exact hown, fun k hk => by
    obtain rfl : k = 0 := by simpa using hk
    refine ⟨by rw [← HXE.out]; exact hrat.keep ((Below.refl _ _).alloc (Nat.le_refl _) _), ?_⟩
    have := hrat.lt
    intro e
    have e2 : w2.heap.size = r.b := Option.some.inj e
    omega⟩)
  have HBD := hid hbd
  have H3 := hid (H2.out.keep ((Below.refl _ _).alloc (Nat.le_refl _) (.cells #[r.v q, .bool xb] 26)))
  clear hb hri hnew hrv hrat hrn hown hbd H1 k0 k1 k2 k3 k4 k5 k6 k7 k8 k9 k10
  go_wp2_with fail
  go_loopw [9, 10] (fun s i wr => ∃ n : Nat, n ≤ l.length ∧ i = .int .i64 (n : Int) ∧ ∃ (a' : Option Addr) (c' : Nat) (rs : List (Rw × Bd)), s = .slice a' (n + 1) c' ∧ Hid (R2 w wr #[.int .i64 (c.R : Int), .int .i64 (c.L : Int), .int .i64 c.A, .int .i64 c.B, .int .i64 c.K, .int .i64 c.A2, .int .i64 c.B2] #[.slice a0 q cap0, .bool xb]) ∧ Hid (Bods wr (w.heap.size + 2) (.slice a' (n + 1) c') q rs) ∧ Hid (rs.map (·.2) = folN c x l n)) (fun _ i _ => l.length - (intOf i).toNat)
  case atStart => exact ⟨0, Nat.zero_le _, rfl, _, _, [(r, x)], rfl, H3, HBD, by rw [HR0.out]; rfl⟩
  case round =>
    obtain ⟨n, hn, rfl, a', c', rs, rfl, H2, HBD, HMP⟩ := hrel
    clear H3
    have hrl : rs.length = n + 1 := by rw [← List.length_map (·.2), HMP.out, folN_len]
    by_cases hlt : n < l.length
    · have hlt' : (n : Int) < l.length := by omega
      obtain rfl : a = some ⟨ba, o, none⟩ := HAD.out.resolve_left (by rintro rfl; exact absurd hlt (Nat.not_lt_zero _))
      have hbt := HLB.out _ (List.getElem_mem hlt)
      have hsc := runS_succ c x l n hlt
      have HXL := hid (fun w1 (h : Below w.heap.size w w1) => HCL.out w1 h n hlt)
      obtain ⟨t, ht⟩ : ∃ t, t = l[n] := ⟨_, rfl⟩
      rw [← ht] at hbt hsc HXL
      have hy : rs[n].2 = runS c x (l.take n) := by
        have h1 : (rs.map (·.2))[n]'(by rw [List.length_map]; omega) = rs[n].2 := by simp
        rw [← h1]
        simp only [HMP.out]
        exact folN_at c x l n n (Nat.le_refl _)
      obtain ⟨g, ha', hgb, hgl, hcs⟩ := HBD.out.at_ (by omega)
      subst ha'
      obtain ⟨hc1, hc2⟩ := hcs n (by omega)
      have hrow := (HBD.out.row n (by omega)).1
      rw [hy] at hc2 hrow
      obtain ⟨hx1, hx2⟩ := bdvs_at q rs n (by omega)
      rw [hy] at hx2
      obtain ⟨rr, hrr⟩ : ∃ r, r = rs[n].1 := ⟨_, rfl⟩
      rw [← hrr] at hc1 hrow hx1
      have HWY := hid (HWM.out n)
      have hq1 := HLQ.out n
      have hq2 := HLQ.out (n + 1)
      rw [hsc] at hq2
      have HMP2 := hid (folN_succ c x l n)
      rw [hsc] at HMP2
      obtain ⟨y, hyy⟩ : ∃ y, y = runS c x (l.take n) := ⟨_, rfl⟩
      rw [← hyy] at hx2 hc2 hrow HWY hq1 hq2 HMP2
      have HBT := hid hbt
      have HAF := hid (fun w1 (h1 : RowI w1 (.slice (some ⟨rr.b, rr.o, none⟩) q rr.c) y.1) => rafter_new c (.slice (some ⟨rr.b, rr.o, none⟩) q rr.c) y.1 y.2 t w1 HOK.out HWY.out HBT.out.1 HBT.out.2 h1)
      have HROW := hid (hrow.row (by omega))
      obtain ⟨y2, hy2⟩ : ∃ z, z = tickS c (y.1, y.2) t := ⟨_, rfl⟩
      rw [← hy2] at HAF
      rw [show tickS c y t = y2 from hy2.symm] at hq2 HMP2
      rw [hq1] at HAF
      have HY2 := hid hq2
      have HNL := hid (show n + 1 ≤ 2000 by omega)
      have HRL := hid hrl
      have HX1 := hid hx1
      have HX2 := hid hx2
      have hwr2 := lt_of_block H2.out.res
      clear hx1 hx2 ht hsc hbt hy hcs hrr hyy hq1 hq2 hy2 hrow hrl
      have hni : (n : Int) < ((n : Int) + 1) := by omega
      go_wp2_with fail
      refine wp_region_held_drew (S := RawFo w #[.int .i64 (c.R : Int), .int .i64 (c.L : Int), .int .i64 c.A, .int .i64 c.B, .int .i64 c.K, .int .i64 c.A2, .int .i64 c.B2] #[.slice a0 q cap0, .bool xb] g n ba o (.slice (some ⟨rr.b, rr.o, none⟩) q rr.c) (.bool y.2) (.int .i64 t)) (by kernel_rfl) (RawFo.keep ⟨hc1, hc2, HXL.out _ H2.out.low, H2.out⟩ (Below.refl _ _).drew) (fun hS0 => ?_)
      refine wpAnyH_take (i := 0) (v := ?_) rfl (by kernel_rfl) (by kernel_rfl) (by kernel_rfl) (fun _ _ _ h => h) (Or.inl ⟨by rfl, ?_⟩) hS0 ?_
      rotate_left
      · intro w' hSw
        obtain ⟨q0, q1, q2, hq⟩ := hSw
        obtain ⟨s0, s1, s2, s3, s4, s5, s6, s7, s8, s9, s10⟩ := hq.nine
        clear hq
        go_simp
        try with_reducible rfl
      simp only [Act.put, List.getElem_toArray, List.getElem_cons_succ, List.getElem_cons_zero, List.setIfInBounds_toArray, List.set_cons_zero, List.set_cons_succ]
      refine wpAnyH_take (i := 1) (v := ?_) rfl (by kernel_rfl) (by kernel_rfl) (by kernel_rfl) (fun _ _ _ h => h) (Or.inl ⟨by rfl, ?_⟩) hS0 ?_
      rotate_left
      · intro w' hSw
        obtain ⟨q0, q1, q2, hq⟩ := hSw
        obtain ⟨s0, s1, s2, s3, s4, s5, s6, s7, s8, s9, s10⟩ := hq.nine
        clear hq
        go_simp
        try with_reducible rfl
      simp only [Act.put, List.getElem_toArray, List.getElem_cons_succ, List.getElem_cons_zero, List.setIfInBounds_toArray, List.set_cons_zero, List.set_cons_succ]
      refine wpAnyH_take (i := 2) (v := ?_) rfl (by kernel_rfl) (by kernel_rfl) (by kernel_rfl) (fun _ _ _ h => h) (Or.inl ⟨by rfl, ?_⟩) hS0 ?_
      rotate_left
      · intro w' hSw
        obtain ⟨q0, q1, q2, hq⟩ := hSw
        obtain ⟨s0, s1, s2, s3, s4, s5, s6, s7, s8, s9, s10⟩ := hq.nine
        clear hq
        go_simp
        try with_reducible rfl
      simp only [Act.put, List.getElem_toArray, List.getElem_cons_succ, List.getElem_cons_zero, List.setIfInBounds_toArray, List.set_cons_zero, List.set_cons_succ]
      refine wpAnyH_take (i := 3) (v := ?_) rfl (by kernel_rfl) (by kernel_rfl) (by kernel_rfl) (fun _ _ _ h => h) (Or.inl ⟨by rfl, ?_⟩) hS0 ?_
      rotate_left
      · intro w' hSw
        obtain ⟨q0, q1, q2, hq⟩ := hSw
        obtain ⟨s0, s1, s2, s3, s4, s5, s6, s7, s8, s9, s10⟩ := hq.nine
        clear hq
        go_simp
        try with_reducible rfl
      simp only [Act.put, List.getElem_toArray, List.getElem_cons_succ, List.getElem_cons_zero, List.setIfInBounds_toArray, List.set_cons_zero, List.set_cons_succ]
      refine wpAnyH_take (i := 4) (v := ?_) rfl (by kernel_rfl) (by kernel_rfl) (by kernel_rfl) (fun _ _ _ h => h) (Or.inl ⟨by rfl, ?_⟩) hS0 ?_
      rotate_left
      · intro w' hSw
        obtain ⟨q0, q1, q2, hq⟩ := hSw
        obtain ⟨s0, s1, s2, s3, s4, s5, s6, s7, s8, s9, s10⟩ := hq.nine
        clear hq
        go_simp
        try with_reducible rfl
      simp only [Act.put, List.getElem_toArray, List.getElem_cons_succ, List.getElem_cons_zero, List.setIfInBounds_toArray, List.set_cons_zero, List.set_cons_succ]
      refine wpAnyH_take (i := 5) (v := ?_) rfl (by kernel_rfl) (by kernel_rfl) (by kernel_rfl) (fun _ _ _ h => h) (Or.inl ⟨by rfl, ?_⟩) hS0 ?_
      rotate_left
      · intro w' hSw
        obtain ⟨q0, q1, q2, hq⟩ := hSw
        obtain ⟨s0, s1, s2, s3, s4, s5, s6, s7, s8, s9, s10⟩ := hq.nine
        clear hq
        go_simp
        try with_reducible rfl
      simp only [Act.put, List.getElem_toArray, List.getElem_cons_succ, List.getElem_cons_zero, List.setIfInBounds_toArray, List.set_cons_zero, List.set_cons_succ]
      refine wpAnyH_take (i := 6) (v := ?_) rfl (by kernel_rfl) (by kernel_rfl) (by kernel_rfl) (fun _ _ _ h => h) (Or.inl ⟨by rfl, ?_⟩) hS0 ?_
      rotate_left
      · intro w' hSw
        obtain ⟨q0, q1, q2, hq⟩ := hSw
        obtain ⟨s0, s1, s2, s3, s4, s5, s6, s7, s8, s9, s10⟩ := hq.nine
        clear hq
        go_simp
        try with_reducible rfl
      simp only [Act.put, List.getElem_toArray, List.getElem_cons_succ, List.getElem_cons_zero, List.setIfInBounds_toArray, List.set_cons_zero, List.set_cons_succ]
      refine wpAnyH_take (i := 7) (v := ?_) rfl (by kernel_rfl) (by kernel_rfl) (by kernel_rfl) (fun _ _ _ h => h) (Or.inl ⟨by rfl, ?_⟩) hS0 ?_
      rotate_left
      · intro w' hSw
        obtain ⟨q0, q1, q2, hq⟩ := hSw
        obtain ⟨s0, s1, s2, s3, s4, s5, s6, s7, s8, s9, s10⟩ := hq.nine
        clear hq
        go_simp
        try with_reducible rfl
      simp only [Act.put, List.getElem_toArray, List.getElem_cons_succ, List.getElem_cons_zero, List.setIfInBounds_toArray, List.set_cons_zero, List.set_cons_succ]
      refine wpAnyH_take (i := 8) (v := ?_) rfl (by kernel_rfl) (by kernel_rfl) (by kernel_rfl) (fun _ _ _ h => h) (Or.inl ⟨by rfl, ?_⟩) hS0 ?_
      rotate_left
      · intro w' hSw
        obtain ⟨q0, q1, q2, hq⟩ := hSw
        obtain ⟨s0, s1, s2, s3, s4, s5, s6, s7, s8, s9, s10⟩ := hq.nine
        clear hq
        go_simp
        try with_reducible rfl
      simp only [Act.put, List.getElem_toArray, List.getElem_cons_succ, List.getElem_cons_zero, List.setIfInBounds_toArray, List.set_cons_zero, List.set_cons_succ]
      refine wpAnyH_take (i := 9) (v := ?_) rfl (by kernel_rfl) (by kernel_rfl) (by kernel_rfl) (fun _ _ _ h => h) (Or.inl ⟨by rfl, ?_⟩) hS0 ?_
      rotate_left
      · intro w' hSw
        obtain ⟨q0, q1, q2, hq⟩ := hSw
        obtain ⟨s0, s1, s2, s3, s4, s5, s6, s7, s8, s9, s10⟩ := hq.nine
        clear hq
        go_simp
        try with_reducible rfl
      simp only [Act.put, List.getElem_toArray, List.getElem_cons_succ, List.getElem_cons_zero, List.setIfInBounds_toArray, List.set_cons_zero, List.set_cons_succ]
      (refine wpAnyH_ready (rs := [10]) (by kernel_rfl) (by simp) ?_)
      refine AllReadyH.cons rfl (fun K hK => ?_) AllReadyH.nil
      go_simp
      refine (HAF.out _ (HROW.out.keep (Below.refl _ _).drew)).mono ?_
      rintro e w3 ⟨ua, uc, rfl, hri, hnew, hb⟩
      obtain ⟨r2, hua, hrv, hrat⟩ := rowAt_of hri HY2.out hq0.1
      have hrn := hnew _ hua
      subst hua
      obtain rfl : uc = r2.c := by injection hrv
      have hrn2 : wr.heap.size ≤ r2.b := hrn
      have hb3 := ((Below.refl wr.heap.size wr).drew).trans hb
      have HRAT := hid hrat
      have HB3 := hid hb3
      clear hri hnew hrv hrn hrat
      (refine hK.out _ _ (hS0.keep hb) (fun hS1 => ?_); clear hK K)
      (refine wpAnyH_ready (rs := [11]) (by kernel_rfl) (by simp) ?_)
      refine AllReadyH.cons rfl (fun K hK => ?_) AllReadyH.nil
      go_simp
      (refine hK.out _ _ (hS1.keep ((Below.refl _ _).alloc (Nat.le_refl _) _)) (fun hS2 => ?_); clear hK K)
      (refine wpAnyH_ready (rs := [12]) (by kernel_rfl) (by simp) ?_)
      refine AllReadyH.cons rfl (fun K hK => ?_) AllReadyH.nil
      refine step_append_more rfl (.tmp 27) (.tmp 38) 34 rfl (w.heap.size + 2) 26 i0 (.agg #[.slice none 0 0, .bool false]) 2 32 Try.underlying34 hi hz0 hz1 hz2 rfl (by decide) (.slice (some ⟨g, 0, none⟩) (n + 1) c') rs.length (bdvs q rs) rfl ((HBD.out.keep HB3.out).own.alloc _) ⟨w3.heap.size, 0, none⟩ 1 1 [r2.v q, .bool y2.2] rfl rfl (cellBd rfl) oneBd (by decide) (by have := HNL.out; have := HRL.out; unfold maxLen; omega) (by have := HNL.out; have := HRL.out; omega) (by have := HB3.out.size; rw [World.size_alloc]; omega) ?_
      intro v8 w8 hown8 hgrow8 hw8 hold8
      have hbel := (Below.refl w3.heap.size w3).alloc (Nat.le_refl _) (.cells #[r2.v q, .bool y2.2] 26)
      have hbods := ((HBD.out.keep HB3.out).keep hbel).app hown8 hgrow8 hw8 (HRAT.out.keep hbel) (by intro e; have e2 : g = r2.b := Option.some.inj e; omega)
      have hown9 := hown8
      rw [HRL.out] at hown9
      obtain ⟨a8, c8, rfl⟩ := own_shape2b hown9
      have HBD8 := hid hbods
      have hr28 := r2_grow ((H2.out.keep HB3.out).keep hbel) hgrow8 hgb
      have H28 := hid hr28
      have HMP8 := hid (show (rs ++ [(r2, y2)]).map (·.2) = folN c x l (n + 1) by rw [List.map_append, HMP.out, HMP2.out]; rfl)
      (refine hK.out _ _ (⟨hold8 g (n * 2) _ rfl HX1.out, hold8 g (n * 2 + 1) _ rfl HX2.out, HXL.out _ H28.out.low, H28.out⟩) (fun hS3 => ?_); clear hK K)
      clear hown8 hown9 hgrow8 hw8 hold8 hbods hr28 hbel
      refine wpAnyH_take (i := 13) (v := ?_) rfl (by kernel_rfl) (by kernel_rfl) (by kernel_rfl) (fun _ _ _ h => h) (Or.inl ⟨by rfl, ?_⟩) hS3 ?_
      rotate_left
      · intro w' hSw
        obtain ⟨q0, q1, q2, hq⟩ := hSw
        obtain ⟨s0, s1, s2, s3, s4, s5, s6, s7, s8, s9, s10⟩ := hq.nine
        clear hq
        go_simp
        try with_reducible rfl
      simp only [Act.put, List.getElem_toArray, List.getElem_cons_succ, List.getElem_cons_zero, List.setIfInBounds_toArray, List.set_cons_zero, List.set_cons_succ]
      refine wpAnyH_done (by kernel_rfl) ?_ _
      clear hS0 hS1 hS2 hS3 hc1 hc2
      go_wp2
      go_roundw
      case rel => exact ⟨n + 1, by omega, by go_num, a8, c8, rs ++ [(r2, y2)], rfl, H28, HBD8, HMP8⟩
      case measure => simp [intOf]; omega
    · obtain rfl : n = l.length := by omega
      have HRD := hid (HBD.out.read (by omega) (by omega))
      rw [HMP.out, folN_all] at HRD
      go_wp2_with fail
      go_ret2
      exact ⟨_, rfl, HRD.out, H2.out.low⟩
end Go.Proofs.Ytpkcnojcklmhmaa
