/- Walk of ByColdest; the sums of places as sums of what is told: contracts. -/
import Derived.Test.YtedfajokiblfhaaC8
import Derived.Test.YtedfajokiblfhaaRz
import Derived.Test.YtedfajokiblfhaaUb
namespace Go.Proofs.Ytedfajokiblfhaa
open Go.RowKit Go.Lib

theorem sumL_snoc (f : Int → Nat) (l : List Int) (x : Int) : Lt.sumL f (l ++ [x]) = Lt.cutN (Lt.sumL f l) (f x) := by
  unfold Lt.sumL
  rw [List.foldl_append]
  rfl
theorem place_sum {c : Cn} {f : Int → Nat} {t : Int} {p : List Int} (hc : c.Ok) (ho : okT t = true) (hop : okL p = true) {i : Nat} (hi : i < c.P) :
    ∀ k, k ≤ p.length → (dishR c f (dish0 c t) (p.take k)).2.getD i 0 = Lt.sumL f (tellN (fun y => y.1.getD i 0) c (evB c t) p k)
  | 0, _ => by
    show (List.replicate c.P 0).getD i 0 = 0
    simp [List.getD, hi]
  | k + 1, hk => by
    have hG : Good c (dishR c f (dish0 c t) (p.take k)) := (dish0_good ho).run hc (List.all_eq_true.2 fun x hx => List.all_eq_true.1 hop x (List.mem_of_mem_take hx))
    have ih := place_sum (f := f) hc ho hop hi k (by omega)
    have hb := okL_all hop k hk
    have hG2 := hG.tick (f := f) hc hb
    have hT : (tickS c (dishR c f (dish0 c t) (p.take k)).1 p[k]).1.length = c.P := (bodyV_iff.1 hG2.body).1
    rw [dishR_succ c f _ p k hk, tellN_succ, sumL_snoc, ← ih]
    show (addD f _ _).getD i 0 = _
    rw [addD_getD (by rw [hG.len]; exact hi) (by rw [hT]; exact hi), dishR_body]
    have e : runS c (evB c t) (p.take (k + 1)) = tickS c (runS c (evB c t) (p.take k)) p[k] := runS_succ c _ p k hk
    rw [e]
    rfl
theorem even_chk {c : Cn} {t : Int} {p : List Int} (hv : c.V) (ho : okT t = true) (hop : okL p = true) (hl : p.length ≤ 2000) : chkE (bothB c.R c.L c.A c.B c.K c.A2 c.B2 (evB c t).1 (evB c t).2) p = 0 := by
  rw [bothB_cn c hv, show bodyV c (evB c t).1 (evB c t).2 = true from evB_valid ho]
  exact chkE_ok hop (by omega)
/-- The coldest temperatures of an even can in some baths. -/
def coldL (c : Cn) (t : Int) (p : List Int) : List Int := tellN (fun y => minT y.1) c (evB c t) p p.length
theorem told_ok {c : Cn} {t : Int} {p : List Int} {f : Bd → Int} (hc : c.Ok) (ho : okT t = true) (hop : okL p = true) (hf : ∀ y : Bd, bodyV c y.1 y.2 = true → f y ∈ y.1) : okL (tellN f c (evB c t) p p.length) = true := by
  refine List.all_eq_true.2 fun x hx => ?_
  unfold tellN at hx
  obtain ⟨k, _, rfl⟩ := List.mem_map.1 hx
  have hb : bodyV c (runS c (evB c t) (p.take (k + 1))).1 (runS c (evB c t) (p.take (k + 1))).2 = true := body_run hc (evB_valid ho) (List.all_eq_true.2 fun x hx => List.all_eq_true.1 hop x (List.mem_of_mem_take hx))
  exact List.all_eq_true.1 (bodyV_iff.1 hb).2.2 _ (hf _ hb)
theorem coldL_ok {c : Cn} {t : Int} {p : List Int} (hc : c.Ok) (ho : okT t = true) (hop : okL p = true) : okL (coldL c t p) = true :=
  told_ok hc ho hop fun y hy => minT_mem y.1 (by rw [(bodyV_iff.1 hy).1]; exact hc.p.1)
theorem coldL_len (c : Cn) (t : Int) (p : List Int) : (coldL c t p).length = p.length := tellN_len _ _ _ _ _
theorem placeL_ok {c : Cn} {t : Int} {p : List Int} {i : Nat} (hc : c.Ok) (ho : okT t = true) (hop : okL p = true) (hi : i < c.P) : okL (tellN (fun y => y.1.getD i 0) c (evB c t) p p.length) = true :=
  told_ok hc ho hop fun y hy => by
    have h := (bodyV_iff.1 hy).1
    rw [getD_at (by rw [h]; exact hi)]
    exact List.getElem_mem _
theorem sum_at (s : ByteArray) (r d g : Int) (Z : Nat) (w : World) (hs : s.size ≤ maxLen) (v : Value) (l : List Int) (hl : RowI w v l) (hv : Lt.validB s.data.toList r Z d g = true) (ho : okL l = true) (hlen : l.length ≤ 10000) :
    Calls Try.prog 19 #[.agg #[.string s, .int .i64 r, .int .i64 Z, .int .i64 d, .int .i64 g], v] w fun e w' => e = .returned (.tuple #[.int .i64 (Lt.sumL (Lt.dn r Z) l : Nat), .int .i64 0]) ∧ Below w.heap.size w w' :=
  Lt.lSum_ok s r d g Z w hs v l hl hv ho hlen
set_option maxRecDepth 20000 in
set_option maxHeartbeats 8000000 in
theorem byc_ok (c : Cn) (s : ByteArray) (r d g t : Int) (Z : Nat) (v : Value) (p : List Int) (w : World) (hs : s.size ≤ maxLen) (hcv : c.V) (hv : Lt.validB s.data.toList r Z d g = true) (ho : okT t = true) (hop : okL p = true) (hlen : p.length ≤ 2000) (hl : RowI w v p) :
    Calls Try.prog 21 #[.agg #[.int .i64 (c.R : Int), .int .i64 (c.L : Int), .int .i64 c.A, .int .i64 c.B, .int .i64 c.K, .int .i64 c.A2, .int .i64 c.B2], .agg #[.string s, .int .i64 r, .int .i64 (Z : Int), .int .i64 d, .int .i64 g], .int .i64 t, v] w fun e w' => e = .returned (.tuple #[.int .i64 (Lt.sumL (Lt.dn r Z) (coldL c t p) : Nat), .int .i64 0]) ∧ Below w.heap.size w w' := by
  have HX := hid (box2_start (w := w) (A := #[.int .i64 (c.R : Int), .int .i64 (c.L : Int), .int .i64 c.A, .int .i64 c.B, .int .i64 c.K, .int .i64 c.A2, .int .i64 c.B2]) (B := #[.string s, .int .i64 r, .int .i64 (Z : Int), .int .i64 d, .int .i64 g]) (T := 23) (T' := 25) (fz := (0, 0)) (fz' := (0, 0)))
  have HL := hid (fun w1 (g : Below w.heap.size w w1) => hl.keep g)
  obtain ⟨a0, cap, rfl⟩ := hl.shape
  have hcan : canB (c.R : Int) c.L c.A c.B c.K c.A2 c.B2 = true := hcv
  have hch : chk4 (canB (c.R : Int) c.L c.A c.B c.K c.A2 c.B2) (Kl.vB ⟨s, r, Z, d, g⟩) t p = 0 := by
    refine chk4_ok ?_ ?_ (by omega)
    · rw [hcan, show Kl.vB ⟨s, r, Z, d, g⟩ = true from hv]; rfl
    · rw [ho, hop]; rfl
  have HC : Hid (∀ W, RowI W (.slice a0 p.length cap) p → Calls Try.prog 35 #[.agg #[.int .i64 (c.R : Int), .int .i64 (c.L : Int), .int .i64 c.A, .int .i64 c.B, .int .i64 c.K, .int .i64 c.A2, .int .i64 c.B2], .agg #[.string s, .int .i64 r, .int .i64 (Z : Int), .int .i64 d, .int .i64 g], .int .i64 t, .slice a0 p.length cap] W fun e w' => e = .returned (.int .i64 0) ∧ Below W.heap.size W w') := fun W h => by
    have := pcheck_any c.R c.L c.A c.B c.K c.A2 c.B2 W ⟨s, r, Z, d, g⟩ t (.slice a0 p.length cap) p hs h (by unfold maxLen; omega)
    rwa [hch] at this
  have HE : Hid (∀ W, Calls Try.prog 16 #[.agg #[.int .i64 (c.R : Int), .int .i64 (c.L : Int), .int .i64 c.A, .int .i64 c.B, .int .i64 c.K, .int .i64 c.A2, .int .i64 c.B2], .int .i64 t] W (OutB (evB c t, 0) W)) := fun W => by
    have := even_all c.R c.L c.A c.B c.K c.A2 c.B2 W t
    rwa [evenO_ok hcv ho] at this
  have HCO : Hid (∀ W (ua : Option Addr) (uc : Nat), RowI W (.slice ua (evB c t).1.length uc) (evB c t).1 → RowI W (.slice a0 p.length cap) p → Calls Try.prog 20 #[.agg #[.int .i64 (c.R : Int), .int .i64 (c.L : Int), .int .i64 c.A, .int .i64 c.B, .int .i64 c.K, .int .i64 c.A2, .int .i64 c.B2], .agg #[.slice ua (evB c t).1.length uc, .bool (evB c t).2], .slice a0 p.length cap] W (ColP (coldL c t p) 0 W)) := fun W ua uc h1 h2 => by
    have := hcold_all c.R c.L c.A c.B c.K c.A2 c.B2 W (.slice ua (evB c t).1.length uc) (evB c t).1 (evB c t).2 (.slice a0 p.length cap) p h1 h2
    rw [show ((evB c t).1, (evB c t).2) = evB c t from rfl, colO_ok (even_chk hcv ho hop hlen), cnOf_cn] at this
    exact this
  have HSU := hid (fun W (u : Value) (h : RowI W u (coldL c t p)) => sum_at s r d g Z W hs u (coldL c t p) h hv (coldL_ok hcv.ok ho hop) (by rw [coldL_len]; omega))
  clear hl hcan hch hlen hop ho hv hcv hs
  go_enter Try.func21, Try.ntmps21
  go_wp2_with fail
  refine (HC.out _ (HL.out _ HX.out.low)).mono ?_
  rintro e w1 ⟨rfl, hb⟩
  have HX := hid (HX.out.keep hb)
  clear hb
  have t0 := HX.out.fst 0; have t1 := HX.out.fst 1; have t2 := HX.out.fst 2; have t3 := HX.out.fst 3; have t4 := HX.out.fst 4; have t5 := HX.out.fst 5; have t6 := HX.out.fst 6
  simp only [List.getElem?_toArray, List.getElem?_cons_zero, List.getElem?_cons_succ] at t0 t1 t2 t3 t4 t5 t6
  go_wp2_with fail
  refine (HE.out _).mono ?_
  rintro e w2 ⟨ua, uc, rfl, hr, hb⟩
  have HX := hid (HX.out.keep hb)
  have HR := hid hr
  clear hb hr t0 t1 t2 t3 t4 t5 t6
  have t0 := HX.out.fst 0; have t1 := HX.out.fst 1; have t2 := HX.out.fst 2; have t3 := HX.out.fst 3; have t4 := HX.out.fst 4; have t5 := HX.out.fst 5; have t6 := HX.out.fst 6
  simp only [List.getElem?_toArray, List.getElem?_cons_zero, List.getElem?_cons_succ] at t0 t1 t2 t3 t4 t5 t6
  have hz : w.heap.size < w2.heap.size := by have := HX.out.sz; omega
  go_wp2_with fail
  have hba := (Below.refl _ w2).alloc (Nat.le_refl _) (.cells #[.slice ua (evB c t).1.length uc, .bool (evB c t).2] 42)
  have HX := hid (HX.out.keep hba)
  refine (HCO.out _ ua uc (HR.out.keep hba) (HL.out _ HX.out.low)).mono ?_
  rintro e w3 ⟨ub, ud, rfl, hr3, hb⟩
  have HX := hid (HX.out.keep hb)
  have HR3 := hid hr3
  clear hb hr3 hba t0 t1 t2 t3 t4 t5 t6 hz
  have t0 := HX.out.snd 0; have t1 := HX.out.snd 1; have t2 := HX.out.snd 2; have t3 := HX.out.snd 3; have t4 := HX.out.snd 4
  simp only [List.getElem?_toArray, List.getElem?_cons_zero, List.getElem?_cons_succ] at t0 t1 t2 t3 t4
  go_wp2_with fail
  refine (HSU.out _ _ HR3.out).mono ?_
  rintro e w4 ⟨rfl, hb⟩
  have HX := hid (HX.out.keep hb)
  clear hb t0 t1 t2 t3 t4
  go_wp2_with fail
  go_ret2
  exact ⟨rfl, HX.out.low⟩
end Go.Proofs.Ytedfajokiblfhaa
