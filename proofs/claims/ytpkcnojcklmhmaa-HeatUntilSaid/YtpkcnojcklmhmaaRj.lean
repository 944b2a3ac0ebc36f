/- HeatUntil: its walk where all is asked. -/
import Derived.Test.YtpkcnojcklmhmaaRi
import Derived.Test.YtpkcnojcklmhmaaFa
import Derived.Test.YtpkcnojcklmhmaaGb
namespace Go.Proofs.Ytpkcnojcklmhmaa
open Go.RowKit

theorem Box1.app {w W W' : World} {A : Array Value} {v v' : Value} {xs : List Value} {l : List Int} (h : Box1 w W A) (hown : W.ownsRow (w.heap.size + 1) 3 1 v xs.length xs) (hA : AppP W (w.heap.size + 1) 3 v xs l v' W') : Box1 w W' A := by
  have hne : some w.heap.size ≠ v.ownBlock := fun e => by have := (World.ownsRow.lt hown _ e.symm).1; omega
  refine ⟨fun i => (World.cell?_of_block (a := ⟨w.heap.size, i, none⟩) (hA.2.1.block _ h.sz hne)).trans (h.fst i), Nat.lt_of_lt_of_le h.sz hA.2.1.size, h.low.grown hA.2.1 h.low.size (fun k hk => by have := (World.ownsRow.lt hown k hk).1; omega)⟩
theorem run_rep (c : Cn) (x : Bd) (v v2 : Value) (bath : Int) (m : Nat) (w : World) (hcv : c.V) (hbv : bodyV c x.1 x.2 = true) (hob : okT bath = true) (hm : m ≤ 2000) (hl : RowI w v x.1) (hl2 : RowI w v2 (List.replicate m bath)) :
    Calls Try.prog 15 #[.agg #[.int .i64 (c.R : Int), .int .i64 (c.L : Int), .int .i64 c.A, .int .i64 c.B, .int .i64 c.K, .int .i64 c.A2, .int .i64 c.B2], .agg #[v, .bool x.2], v2] w fun e w' => ∃ (ua : Option Addr) (uc : Nat), e = .returned (.tuple #[.agg #[.slice ua x.1.length uc, .bool (stepN c x bath m).2], .int .i64 0]) ∧ RowI w' (.slice ua x.1.length uc) (stepN c x bath m).1 ∧ Below w.heap.size w w' := by
  have ho : okL (List.replicate m bath) = true := okL_of fun t ht => by obtain rfl := (List.mem_replicate.1 ht).2; simpa [okT] using hob
  have h1 : chkE (bothB c.R c.L c.A c.B c.K c.A2 c.B2 x.1 x.2) (List.replicate m bath) = 0 := by rw [bothB_cn c hcv, hbv]; exact chkE_ok ho (by simp; omega)
  obtain ⟨hx1, _, hx3⟩ := bodyV_iff.1 hbv
  have hb2 : -50000 ≤ bath ∧ bath ≤ 200000 := by simpa [okT] using hob
  have hlen : (stepN c x bath m).1.length = x.1.length := (stepN_warm hcv.ok ⟨hx1, okL_bd hx3⟩ hb2.1 hb2.2 m).len.trans hx1.symm
  have h := run_all c.R c.L c.A c.B c.K c.A2 c.B2 w v x.1 x.2 v2 (List.replicate m bath) hl hl2
  rw [runO_ok (x := (x.1, x.2)) h1, cnOf_cn] at h
  refine h.mono fun e w' ⟨ua, uc, g1, g2, g3⟩ => ⟨ua, uc, ?_, ?_, g3⟩
  · rw [g1, ← hlen]; rfl
  · rw [← hlen]; exact g2
theorem cold_rep (c : Cn) (x : Bd) (v : Value) (bath : Int) (m : Nat) (w : World) (hcv : c.V) (hbv : bodyV c x.1 x.2 = true) (hob : okT bath = true) (hl : RowI w v (stepN c x bath m).1) :
    Calls Try.prog 27 #[.agg #[.int .i64 (c.R : Int), .int .i64 (c.L : Int), .int .i64 c.A, .int .i64 c.B, .int .i64 c.K, .int .i64 c.A2, .int .i64 c.B2], .agg #[v, .bool (stepN c x bath m).2]] w (TripP ((bestT ltB (stepN c x bath m).1 (stepN c x bath m).1.length).1 : Nat) (coldN c x bath m) 0 w) := by
  have ho : okL (List.replicate m bath) = true := okL_of fun t ht => by obtain rfl := (List.mem_replicate.1 ht).2; simpa [okT] using hob
  have h1 : bothB c.R c.L c.A c.B c.K c.A2 c.B2 (stepN c x bath m).1 (stepN c x bath m).2 = true := by rw [bothB_cn c hcv]; exact body_run hcv.ok hbv ho
  have h := hcoldest_any c.R c.L c.A c.B c.K c.A2 c.B2 w v (stepN c x bath m).1 (stepN c x bath m).2 hl
  rw [h1] at h
  exact h
/-- The box of Wait, and the body's box behind it. -/
structure RU (w w1 : World) (A : Array Value) (b9 : Nat) (u v : Value) : Prop where
  box : Box1 w w1 A
  out : w1.heap[b9]? = some (.cells #[u, v] 26 (0, 0))
  lt : w.heap.size < b9
section
variable {w w1 w2 : World} {A : Array Value} {b9 : Nat} {u v : Value}
theorem RU.keep (h : RU w w1 A b9 u v) (hb : Below w1.heap.size w1 w2) : RU w w2 A b9 u v := ⟨h.box.keep hb, (hb.block _ (lt_of_block h.out)).trans h.out, h.lt⟩
theorem RU.set (h : RU w w1 A b9 u v) (u' v' : Value) : RU w ((w1.setCell ⟨b9, 0, none⟩ u').setCell ⟨b9, 1, none⟩ v') A b9 u' v' := by
  have h1 := heap_setCell_same w1 b9 0 _ _ u' h.out
  have h2 := heap_setCell_same _ b9 1 _ _ v' h1
  have hlt := h.lt
  have hsz : ((w1.setCell ⟨b9, 0, none⟩ u').setCell ⟨b9, 1, none⟩ v').heap.size = w1.heap.size := by simp
  refine ⟨⟨fun i => ?_, by rw [hsz]; exact h.box.sz, (h.box.low.setCell (p := ⟨b9, 0, none⟩) (by show w.heap.size ≤ b9; omega) _).setCell (p := ⟨b9, 1, none⟩) (by show w.heap.size ≤ b9; omega) _⟩, h2, hlt⟩
  refine (World.cell?_of_block (a := ⟨w.heap.size, i, none⟩) ?_).trans (h.box.fst i)
  rw [heap_setCell_other _ _ _ _ (show w.heap.size ≠ b9 by omega), heap_setCell_other _ _ _ _ (show w.heap.size ≠ b9 by omega)]
theorem RU.two (h : RU w w1 A b9 u v) : w1.cell? ⟨b9, 0, none⟩ = some u ∧ w1.cell? ⟨b9, 1, none⟩ = some v ∧ w1.frozen? ⟨b9, 0, none⟩ = false ∧ w1.frozen? ⟨b9, 1, none⟩ = false :=
  ⟨cell_of_row _ _ 0 _ _ _ h.out, cell_of_row _ _ 1 _ _ _ h.out, frozen_of_row _ _ 0 _ _ h.out, frozen_of_row _ _ 1 _ _ h.out⟩
end
theorem own_beg {w : World} {base : Nat} {a : Option Addr} {k c' : Nat} {bath : Int} (h : w.ownsRow base 3 1 (.slice a (k + 1) c') (ivs (List.replicate (k + 1) bath)).length (ivs (List.replicate (k + 1) bath))) (hk : k ≤ 1000) :
    RowI w (.slice a k k) (List.replicate k bath) ∧ ∀ W : World, (Instr.sliceAt 24 (.slice a (k + 1) c') none (some (.int .i64 (k : Int))) (some (.int .i64 (k : Int)))).run Try.prog W = .ok (.slice a k k) W := by
  have hr := own_rowI (l := List.replicate (k + 1) bath) (by rw [ivs_len] at h; rw [List.length_replicate] at h ⊢; exact h) (by rw [List.length_replicate]; omega)
  obtain ⟨b, o, cap, hv, hc⟩ := hr.some (by simp)
  rw [List.length_replicate] at hv
  injection hv with e1 e2 e3
  subst e1 e3
  have hcap : k + 1 ≤ c' := by
    rcases h.2 with ⟨hn, h0⟩ | ⟨g, cap, cur, hv2, _, _, hle, _⟩
    · cases hn
    · injection hv2 with _ _ e5
      rw [ivs_len, List.length_replicate] at hle
      omega
  refine ⟨?_, fun W => ?_⟩
  · rcases Nat.eq_zero_or_pos k with h0 | h0
    · subst h0; exact .inl ⟨_, _, rfl, rfl⟩
    · refine .inr ⟨b, o, k, by rw [List.length_replicate], by rw [List.length_replicate]; unfold maxLen; omega, fun j hj => ?_⟩
      rw [List.length_replicate] at hj
      rw [hc j (by rw [List.length_replicate]; omega)]
      simp
  · have h1 : (k : Int) ≤ (c' : Int) := by omega
    rcases Nat.eq_zero_or_pos k with h0 | h0
    · subst h0
      simp [go_sem, Try.underlying24]
    · have h3 : ¬ k = 0 := by omega
      simp [go_sem, Try.underlying24, h1, h3]
/-- The box of Wait and the body's box, whatever lies in this. -/
def RUe (w : World) (A : Array Value) (b9 : Nat) (w1 : World) : Prop := ∃ u v, RU w w1 A b9 u v
set_option maxRecDepth 100000 in
set_option maxHeartbeats 8000000 in
theorem until_main (c : Cn) (n : Nat) (u : Value) (x : List Int) (br : Bool) (bath t : Int) (w : World) (hx : RowI w u x) (hcv : c.V) (hbv : bodyV c x br = true) (hob : okT bath = true) (hn : n ≤ 200) (h100 : x.length ≤ 100)
    (hO : untO c.R c.L c.A c.B c.K c.A2 c.B2 (x, br) bath t = ((n : Int), 0)) (hge : t ≤ coldN c (x, br) bath n) (hlt : ∀ m, m < n → ¬ t ≤ coldN c (x, br) bath m) :
    Calls Try.prog 5 #[.agg #[.int .i64 (c.R : Int), .int .i64 (c.L : Int), .int .i64 c.A, .int .i64 c.B, .int .i64 c.K, .int .i64 c.A2, .int .i64 c.B2, u, .bool br, .int .i64 bath, .int .i64 t]] w fun e w' => e = .returned (.bool true) ∧ Below w.heap.size w w' := by
  have HX := hid (fun w1 (g : Below w.heap.size w w1) => hx.keep g)
  obtain ⟨xa, xc, rfl⟩ := hx.shape
  have BX := hid (box1_start (w := w) (A := #[.int .i64 (c.R : Int), .int .i64 (c.L : Int), .int .i64 c.A, .int .i64 c.B, .int .i64 c.K, .int .i64 c.A2, .int .i64 c.B2, .slice xa x.length xc, .bool br, .int .i64 bath, .int .i64 t]) (T := 44) (fz := (0, 0)))
  obtain ⟨t0, t1, t2, t3, t4, t5, t6, t7, t8, t9, t10⟩ := BX.out.wait
  have hz := BX.out.sz
  have d1 := hid (decide_eq_true (show x.length ≤ 100 ∧ 0 ≤ 80 from ⟨h100, by omega⟩))
  have HC := hid (fun w1 (hr : RowI w1 (.slice xa x.length xc) x) => huntil_all c.R c.L c.A c.B c.K c.A2 c.B2 w1 _ x br bath t hr)
  have HR := hid (fun w1 (hr : RowI w1 (.slice xa x.length xc) x) => runtil_all c.R c.L c.A c.B c.K c.A2 c.B2 w1 _ x br bath t hr)
  rw [hO] at HC HR
  unfold PairU at HC HR
  dsimp only at HC HR
  have HRUN := hid (fun w1 v2 m (hm : m ≤ 2000) (h1 : RowI w1 (.slice xa x.length xc) x) h2 => run_rep c (x, br) (.slice xa x.length xc) v2 bath m w1 hcv hbv hob hm h1 h2)
  have HCOLD := hid (fun w1 v1 m h1 => cold_rep c (x, br) v1 bath m w1 hcv hbv hob h1)
  have HGE := hid hge; have HLT := hid hlt
  obtain ⟨i0, hi, hz0, hz1, hz2⟩ := info_parts infoIf
  clear hx hO hge hlt hcv hbv hob h100
  go_enter Try.func5, Try.ntmps5
  go_wp2_with (first
    | (go_at_call 10; refine (brief_any _ _ _ _ _ _ _ _).mono ?_; rintro e w1 ⟨rfl, hb⟩; rw [d1.out]; have BX := hid (BX.out.keep hb); clear hb t0 t1 t2 t3 t4 t5 t6 t7 t8 t9 t10; obtain ⟨t0, t1, t2, t3, t4, t5, t6, t7, t8, t9, t10⟩ := BX.out.wait; have hz := BX.out.sz)
    | (go_at_call 25; refine (HC.out _ (HX.out _ BX.out.low)).mono ?_; rintro e w1 ⟨rfl, hb⟩; have BX := hid (BX.out.keep hb); clear hb t0 t1 t2 t3 t4 t5 t6 t7 t8 t9 t10; obtain ⟨t0, t1, t2, t3, t4, t5, t6, t7, t8, t9, t10⟩ := BX.out.wait; have hz := BX.out.sz)
    | (go_at_call 26; refine (HR.out _ (HX.out _ BX.out.low)).mono ?_; rintro e w1 ⟨rfl, hb⟩; have BX := hid (BX.out.keep hb); clear hb t0 t1 t2 t3 t4 t5 t6 t7 t8 t9 t10; obtain ⟨t0, t1, t2, t3, t4, t5, t6, t7, t8, t9, t10⟩ := BX.out.wait; have hz := BX.out.sz))
  go_loopw [7, 8] (fun s i wr => ∃ j : Nat, j ≤ n ∧ i = .int .i64 (j : Int) ∧ ∃ (a' : Option Addr) (c' : Nat), s = .slice a' j c' ∧ Hid (Box1 w wr #[.int .i64 (c.R : Int), .int .i64 (c.L : Int), .int .i64 c.A, .int .i64 c.B, .int .i64 c.K, .int .i64 c.A2, .int .i64 c.B2, .slice xa x.length xc, .bool br, .int .i64 bath, .int .i64 t]) ∧ Hid (wr.ownsRow (w.heap.size + 1) 3 1 (.slice a' j c') (ivs (List.replicate j bath)).length (ivs (List.replicate j bath)))) (fun _ i _ => n - (intOf i).toNat)
  case atStart => exact ⟨0, Nat.zero_le _, rfl, none, 0, rfl, BX, World.ownsRow_nil _ _ _ _⟩
  case round =>
    obtain ⟨j, hj, rfl, a', c', rfl, BX, HO⟩ := hrel
    clear t0 t1 t2 t3 t4 t5 t6 t7 t8 t9 t10 hz
    obtain ⟨t0, t1, t2, t3, t4, t5, t6, t7, t8, t9, t10⟩ := BX.out.wait
    have hz := BX.out.sz
    by_cases hlt : j < n
    · have hlt' : (j : Int) < n := by omega
      have HLN := hid (show j ≤ 200 by omega)
      go_wp2_with (at_builtin; refine wpList_app rfl _ _ 24 rfl (w.heap.size + 1) 3 i0 Try.underlying24 hi hz0 hz1 hz2 (.slice a' j c') (ivs (List.replicate j bath)) rfl (HO.out.alloc _) (.slice (some ⟨wr.heap.size, 0, none⟩) 1 1) [bath] rfl (RowI.src (one_at _ _ rfl)) (by rw [ivs_len, List.length_replicate]; have := HLN.out; show j + 1 ≤ 1000000; omega) (by have := BX.out.sz; rw [World.size_alloc]; omega) ?_; intro v1 w3 hA; have BX3 := hid (Box1.app (BX.out.keep ((Below.refl _ _).alloc (Nat.le_refl _) _)) (HO.out.alloc _) hA); have ho3 := app_next hA; rw [← List.replicate_succ'] at ho3; obtain ⟨a3, c3, rfl⟩ := own_shape ho3; rw [List.length_replicate] at ho3 ⊢; have HO3 := hid ho3; clear ho3 hA)
      go_roundw
      case rel => exact ⟨j + 1, by omega, by go_num, a3, c3, rfl, BX3, by rw [ivs_len, List.length_replicate]; exact HO3⟩
      case measure => simp [intOf]; omega
    · obtain rfl : j = n := by omega
      have HRL := hid (own_rowI (l := List.replicate j bath) (by have := HO.out; rw [ivs_len] at this; rw [List.length_replicate] at this ⊢; exact this) (by rw [List.length_replicate]; omega))
      have HR1 := hid (fun w1 h1 h2 => HRUN.out w1 (.slice a' j c') j (by omega) h1 h2)
      have HC1 := hid (fun w1 v1 h1 => HCOLD.out w1 v1 j h1)
      obtain ⟨y, hy⟩ : ∃ y, y = stepN c (x, br) bath j := ⟨_, rfl⟩
      obtain ⟨mn, hmn⟩ : ∃ m, m = coldN c (x, br) bath j := ⟨_, rfl⟩
      rw [← hy, ← hmn] at HC1
      rw [← hy] at HR1
      rw [← hmn] at HGE
      obtain ⟨bp, hbp⟩ : ∃ b, b = (bestT ltB y.1 y.1.length).1 := ⟨_, rfl⟩
      rw [← hbp] at HC1
      unfold TripP at HC1
      obtain ⟨yb, hyb⟩ : ∃ b, b = y.2 := ⟨_, rfl⟩
      rw [← hyb] at HC1 HR1
      obtain ⟨y1, hy1⟩ : ∃ b, b = y.1 := ⟨_, rfl⟩
      rw [← hy1] at HC1 HR1
      have hge := HGE.out
      clear hy hmn hbp hyb hy1
      by_cases h0 : j = 0
      · subst h0
        go_wp2_with (first
          | (go_at_call 15; refine (HR1.out _ (HX.out _ BX.out.low) HRL.out).mono ?_; rintro e w4 ⟨ua, uc, rfl, hri, hb⟩; have HRI := hid hri; clear hri; have BX := hid (BX.out.keep hb); clear hb t0 t1 t2 t3 t4 t5 t6 t7 t8 t9 t10; obtain ⟨t0, t1, t2, t3, t4, t5, t6, t7, t8, t9, t10⟩ := BX.out.wait; have hz := BX.out.sz)
          | (go_at_call 27; refine (HC1.out _ _ (HRI.out.keep ((Below.refl _ _).alloc (Nat.le_refl _) _))).mono ?_; rintro e w5 ⟨rfl, hb⟩; replace hb := balloc hb; have BX := hid (BX.out.keep hb); clear hb t0 t1 t2 t3 t4 t5 t6 t7 t8 t9 t10; obtain ⟨t0, t1, t2, t3, t4, t5, t6, t7, t8, t9, t10⟩ := BX.out.wait; have hz := BX.out.sz)
          | (go_at_call 11; refine (awake_any _).mono ?_; rintro e w9 ⟨rfl, hb⟩; have BX := hid (BX.out.keep hb); clear hb t0 t1 t2 t3 t4 t5 t6 t7 t8 t9 t10; obtain ⟨t0, t1, t2, t3, t4, t5, t6, t7, t8, t9, t10⟩ := BX.out.wait; have hz := BX.out.sz))
        go_ret
        exact ⟨rfl, BX.out.low⟩
      · obtain ⟨k, rfl⟩ : ∃ k, j = k + 1 := ⟨j - 1, by omega⟩
        obtain ⟨hbeg, hSL⟩ := own_beg HO.out (by omega)
        have HBEG := hid hbeg
        have HR2 := hid (fun w1 h1 h2 => HRUN.out w1 (.slice a' k k) k (by omega) h1 h2)
        have HC2 := hid (fun w1 v1 h1 => HCOLD.out w1 v1 k h1)
        have hl2 := HLT.out k (by omega)
        obtain ⟨y', hy⟩ : ∃ y', y' = stepN c (x, br) bath k := ⟨_, rfl⟩
        obtain ⟨mk, hmk⟩ : ∃ m, m = coldN c (x, br) bath k := ⟨_, rfl⟩
        rw [← hy, ← hmk] at HC2
        rw [← hy] at HR2
        rw [← hmk] at hl2
        obtain ⟨bq, hbq⟩ : ∃ b, b = (bestT ltB y'.1 y'.1.length).1 := ⟨_, rfl⟩
        rw [← hbq] at HC2
        unfold TripP at HC2
        obtain ⟨yc, hyc⟩ : ∃ b, b = y'.2 := ⟨_, rfl⟩
        rw [← hyc] at HC2 HR2
        obtain ⟨y2, hy2⟩ : ∃ b, b = y'.1 := ⟨_, rfl⟩
        rw [← hy2] at HC2 HR2
        have hl3 : mk < t := by omega
        have HL3 := hid hl3
        clear hy hmk hbq hyc hy2 hbeg hl2 hl3
        have hk0 : ¬ ((k : Int) + 1 = 0) := by omega
        have hkw : IntKind.i64.wrap (k : Int) = k := wrap_i64 (by omega) (by omega)
        go_wp2_with (first
          | (go_at_call 15; refine (HR1.out _ (HX.out _ BX.out.low) HRL.out).mono ?_; rintro e w4 ⟨ua, uc, rfl, hri, hb⟩; have HRI := hid hri; have HBEG4 := hid (HBEG.out.keep hb); clear hri; have BX := hid (BX.out.keep hb); clear hb t0 t1 t2 t3 t4 t5 t6 t7 t8 t9 t10; obtain ⟨t0, t1, t2, t3, t4, t5, t6, t7, t8, t9, t10⟩ := BX.out.wait; have hz := BX.out.sz)
          | (go_at_call 27; refine (HC1.out _ _ (HRI.out.keep ((Below.refl _ _).alloc (Nat.le_refl _) _))).mono ?_; rintro e w5 ⟨rfl, hb⟩; have HRU := hid (RU.keep (⟨BX.out.keep ((Below.refl _ _).alloc (Nat.le_refl _) _), heap_alloc_new w4 _, BX.out.sz⟩ : RU w (w4.alloc (.cells #[.slice ua x.length uc, .bool yb] 26)) #[.int .i64 (c.R : Int), .int .i64 (c.L : Int), .int .i64 c.A, .int .i64 c.B, .int .i64 c.K, .int .i64 c.A2, .int .i64 c.B2, .slice xa x.length xc, .bool br, .int .i64 bath, .int .i64 t] w4.heap.size (.slice ua x.length uc) (.bool yb)) hb); have HBEG5 := hid ((HBEG4.out.keep ((Below.refl _ _).alloc (Nat.le_refl _) _)).keep hb); replace hb := balloc hb; have BX := hid (BX.out.keep hb); clear hb t0 t1 t2 t3 t4 t5 t6 t7 t8 t9 t10; obtain ⟨t0, t1, t2, t3, t4, t5, t6, t7, t8, t9, t10⟩ := BX.out.wait; have hz := BX.out.sz))
        obtain ⟨b9, hb9⟩ : ∃ b, b = w4.heap.size := ⟨_, rfl⟩
        rw [← hb9] at HRU ⊢
        clear hb9
        refine wp_region_held_drew (S := RUe w #[.int .i64 (c.R : Int), .int .i64 (c.L : Int), .int .i64 c.A, .int .i64 c.B, .int .i64 c.K, .int .i64 c.A2, .int .i64 c.B2, .slice xa x.length xc, .bool br, .int .i64 bath, .int .i64 t] b9) (by kernel_rfl) ⟨_, _, HRU.out.keep (Below.refl _ _).drew⟩ (fun hS0 => ?_)
        refine wpAnyH_take (i := 0) (v := ?_) rfl (by kernel_rfl) (by kernel_rfl) (by kernel_rfl) (fun _ _ _ h => h) (Or.inl ⟨by rfl, ?_⟩) hS0 ?_
        rotate_left
        · intro w' hSw
          obtain ⟨q0, q1, hq⟩ := hSw
          obtain ⟨s0, s1, s2, s3, s4, s5, s6, s7, s8, s9, s10⟩ := hq.box.wait
          clear hq
          go_simp
          try with_reducible rfl
        simp only [Act.put, List.getElem_toArray, List.getElem_cons_succ, List.getElem_cons_zero, List.setIfInBounds_toArray, List.set_cons_zero, List.set_cons_succ]
        refine wpAnyH_take (i := 1) (v := ?_) rfl (by kernel_rfl) (by kernel_rfl) (by kernel_rfl) (fun _ _ _ h => h) (Or.inl ⟨by rfl, ?_⟩) hS0 ?_
        rotate_left
        · intro w' hSw
          obtain ⟨q0, q1, hq⟩ := hSw
          obtain ⟨s0, s1, s2, s3, s4, s5, s6, s7, s8, s9, s10⟩ := hq.box.wait
          clear hq
          go_simp
          try with_reducible rfl
        simp only [Act.put, List.getElem_toArray, List.getElem_cons_succ, List.getElem_cons_zero, List.setIfInBounds_toArray, List.set_cons_zero, List.set_cons_succ]
        refine wpAnyH_take (i := 2) (v := ?_) rfl (by kernel_rfl) (by kernel_rfl) (by kernel_rfl) (fun _ _ _ h => h) (Or.inl ⟨by rfl, ?_⟩) hS0 ?_
        rotate_left
        · intro w' hSw
          obtain ⟨q0, q1, hq⟩ := hSw
          obtain ⟨s0, s1, s2, s3, s4, s5, s6, s7, s8, s9, s10⟩ := hq.box.wait
          clear hq
          go_simp
          try with_reducible rfl
        simp only [Act.put, List.getElem_toArray, List.getElem_cons_succ, List.getElem_cons_zero, List.setIfInBounds_toArray, List.set_cons_zero, List.set_cons_succ]
        refine wpAnyH_take (i := 3) (v := ?_) rfl (by kernel_rfl) (by kernel_rfl) (by kernel_rfl) (fun _ _ _ h => h) (Or.inl ⟨by rfl, ?_⟩) hS0 ?_
        rotate_left
        · intro w' hSw
          obtain ⟨q0, q1, hq⟩ := hSw
          obtain ⟨s0, s1, s2, s3, s4, s5, s6, s7, s8, s9, s10⟩ := hq.box.wait
          clear hq
          go_simp
          try with_reducible rfl
        simp only [Act.put, List.getElem_toArray, List.getElem_cons_succ, List.getElem_cons_zero, List.setIfInBounds_toArray, List.set_cons_zero, List.set_cons_succ]
        refine wpAnyH_take (i := 4) (v := ?_) rfl (by kernel_rfl) (by kernel_rfl) (by kernel_rfl) (fun _ _ _ h => h) (Or.inl ⟨by rfl, ?_⟩) hS0 ?_
        rotate_left
        · intro w' hSw
          obtain ⟨q0, q1, hq⟩ := hSw
          obtain ⟨s0, s1, s2, s3, s4, s5, s6, s7, s8, s9, s10⟩ := hq.box.wait
          clear hq
          go_simp
          try with_reducible rfl
        simp only [Act.put, List.getElem_toArray, List.getElem_cons_succ, List.getElem_cons_zero, List.setIfInBounds_toArray, List.set_cons_zero, List.set_cons_succ]
        refine wpAnyH_take (i := 5) (v := ?_) rfl (by kernel_rfl) (by kernel_rfl) (by kernel_rfl) (fun _ _ _ h => h) (Or.inl ⟨by rfl, ?_⟩) hS0 ?_
        rotate_left
        · intro w' hSw
          obtain ⟨q0, q1, hq⟩ := hSw
          obtain ⟨s0, s1, s2, s3, s4, s5, s6, s7, s8, s9, s10⟩ := hq.box.wait
          clear hq
          go_simp
          try with_reducible rfl
        simp only [Act.put, List.getElem_toArray, List.getElem_cons_succ, List.getElem_cons_zero, List.setIfInBounds_toArray, List.set_cons_zero, List.set_cons_succ]
        refine wpAnyH_take (i := 6) (v := .int .i64 (k : Int)) rfl (by kernel_rfl) (by kernel_rfl) (by kernel_rfl) (fun _ _ _ h => h) (Or.inl ⟨by rfl, ?_⟩) hS0 ?_
        · intro w' hSw
          obtain ⟨q0, q1, hq⟩ := hSw
          obtain ⟨s0, s1, s2, s3, s4, s5, s6, s7, s8, s9, s10⟩ := hq.box.wait
          clear hq
          go_simp
        simp only [Act.put, List.getElem_toArray, List.getElem_cons_succ, List.getElem_cons_zero, List.setIfInBounds_toArray, List.set_cons_zero, List.set_cons_succ]
        refine wpAnyH_take (i := 7) (v := ?_) rfl (by kernel_rfl) (by kernel_rfl) (by kernel_rfl) (fun _ _ _ h => h) (Or.inl ⟨by rfl, ?_⟩) hS0 ?_
        rotate_left
        · intro w' hSw
          obtain ⟨q0, q1, hq⟩ := hSw
          obtain ⟨s0, s1, s2, s3, s4, s5, s6, s7, s8, s9, s10⟩ := hq.box.wait
          clear hq
          go_simp
          try with_reducible rfl
        simp only [Act.put, List.getElem_toArray, List.getElem_cons_succ, List.getElem_cons_zero, List.setIfInBounds_toArray, List.set_cons_zero, List.set_cons_succ]
        refine wpAnyH_take (i := 8) (v := .int .i64 (k : Int)) rfl (by kernel_rfl) (by kernel_rfl) (by kernel_rfl) (fun _ _ _ h => h) (Or.inl ⟨by rfl, ?_⟩) hS0 ?_
        · intro w' hSw
          obtain ⟨q0, q1, hq⟩ := hSw
          obtain ⟨s0, s1, s2, s3, s4, s5, s6, s7, s8, s9, s10⟩ := hq.box.wait
          clear hq
          go_simp
        simp only [Act.put, List.getElem_toArray, List.getElem_cons_succ, List.getElem_cons_zero, List.setIfInBounds_toArray, List.set_cons_zero, List.set_cons_succ]
        refine wpAnyH_take (i := 9) (v := .slice a' k k) rfl (by kernel_rfl) (by kernel_rfl) (by kernel_rfl) (fun _ _ _ h => h) (Or.inl ⟨by rfl, ?_⟩) hS0 ?_
        · intro w' hSw
          obtain ⟨q0, q1, hq⟩ := hSw
          obtain ⟨s0, s1, s2, s3, s4, s5, s6, s7, s8, s9, s10⟩ := hq.box.wait
          clear hq
          go_simp
        simp only [Act.put, List.getElem_toArray, List.getElem_cons_succ, List.getElem_cons_zero, List.setIfInBounds_toArray, List.set_cons_zero, List.set_cons_succ]
        (refine wpAnyH_ready (rs := [10]) (by kernel_rfl) (by simp) ?_)
        refine AllReadyH.cons rfl (fun K hK => ?_) AllReadyH.nil
        go_simp
        refine (HR2.out _ (HX.out _ (BX.out.keep (Below.refl _ _).drew).low) (HBEG5.out.keep (Below.refl _ _).drew)).mono ?_
        rintro e w6 ⟨va, vc, rfl, hri, hb⟩
        have HRU6 := hid ((HRU.out.keep (Below.refl _ _).drew).keep hb)
        have HRI6 := hid (rowI_by (x := .slice va x.length vc) (y := .bool yc) hri HRU6.out.out)
        clear hri hb
        (refine hK.out _ _ (⟨_, _, HRU6.out⟩) (fun hS1 => ?_); clear hK K)
        refine wpAnyH_take (i := 11) (v := ?_) rfl (by kernel_rfl) (by kernel_rfl) (by kernel_rfl) (fun _ _ _ h => h) (Or.inl ⟨by rfl, ?_⟩) hS1 ?_
        rotate_left
        · intro w' hSw
          obtain ⟨q0, q1, hq⟩ := hSw
          obtain ⟨s0, s1, s2, s3, s4, s5, s6, s7, s8, s9, s10⟩ := hq.box.wait
          clear hq
          go_simp
          try with_reducible rfl
        simp only [Act.put, List.getElem_toArray, List.getElem_cons_succ, List.getElem_cons_zero, List.setIfInBounds_toArray, List.set_cons_zero, List.set_cons_succ]
        refine wpAnyH_take (i := 12) (v := ?_) rfl (by kernel_rfl) (by kernel_rfl) (by kernel_rfl) (fun _ _ _ h => h) (Or.inl ⟨by rfl, ?_⟩) hS1 ?_
        rotate_left
        · intro w' hSw
          obtain ⟨q0, q1, hq⟩ := hSw
          obtain ⟨s0, s1, s2, s3, s4, s5, s6, s7, s8, s9, s10⟩ := hq.box.wait
          clear hq
          go_simp
          try with_reducible rfl
        simp only [Act.put, List.getElem_toArray, List.getElem_cons_succ, List.getElem_cons_zero, List.setIfInBounds_toArray, List.set_cons_zero, List.set_cons_succ]
        refine wpAnyH_take (i := 13) (v := ?_) rfl (by kernel_rfl) (by kernel_rfl) (by kernel_rfl) (fun _ _ _ h => h) (Or.inl ⟨by rfl, ?_⟩) hS1 ?_
        rotate_left
        · intro w' hSw
          obtain ⟨q0, q1, hq⟩ := hSw
          obtain ⟨s0, s1, s2, s3, s4, s5, s6, s7, s8, s9, s10⟩ := hq.box.wait
          clear hq
          go_simp
          try with_reducible rfl
        simp only [Act.put, List.getElem_toArray, List.getElem_cons_succ, List.getElem_cons_zero, List.setIfInBounds_toArray, List.set_cons_zero, List.set_cons_succ]
        (refine wpAnyH_ready (rs := [14]) (by kernel_rfl) (by simp) ?_)
        refine AllReadyH.cons rfl (fun K hK => ?_) AllReadyH.nil
        obtain ⟨f0, f1, f2, f3⟩ := HRU6.out.two
        go_simp
        have HRU7 := hid (HRU6.out.set (.slice va x.length vc) (.bool yc))
        (refine hK.out _ _ (⟨_, _, HRU7.out⟩) (fun hS2 => ?_); clear hK K)
        refine wpAnyH_take (i := 15) (v := ?_) rfl (by kernel_rfl) (by kernel_rfl) (by kernel_rfl) (fun _ _ _ h => h) (Or.inl ⟨by rfl, ?_⟩) hS2 ?_
        rotate_left
        · intro w' hSw
          obtain ⟨q0, q1, hq⟩ := hSw
          obtain ⟨s0, s1, s2, s3, s4, s5, s6, s7, s8, s9, s10⟩ := hq.box.wait
          clear hq
          go_simp
          try with_reducible rfl
        simp only [Act.put, List.getElem_toArray, List.getElem_cons_succ, List.getElem_cons_zero, List.setIfInBounds_toArray, List.set_cons_zero, List.set_cons_succ]
        refine wpAnyH_done (by kernel_rfl) ?_ _
        generalize (w6.setCell _ _).setCell _ _ = w7 at *
        have BX := hid HRU7.out.box
        clear t0 t1 t2 t3 t4 t5 t6 t7 t8 t9 t10 f0 f1 f2 f3 hS0 hS1 hS2
        obtain ⟨t0, t1, t2, t3, t4, t5, t6, t7, t8, t9, t10⟩ := BX.out.wait
        obtain ⟨f0, f1, f2, f3⟩ := HRU7.out.two
        have hl3 := HL3.out
        go_wp2_with (first
          | (go_at_call 27; refine (HC2.out _ _ HRI6.out).mono ?_; rintro e w8 ⟨rfl, hb⟩; have BX := hid (BX.out.keep hb); clear hb t0 t1 t2 t3 t4 t5 t6 t7 t8 t9 t10; obtain ⟨t0, t1, t2, t3, t4, t5, t6, t7, t8, t9, t10⟩ := BX.out.wait; have hz := BX.out.sz)
          | (go_at_call 11; refine (awake_any _).mono ?_; rintro e w9 ⟨rfl, hb⟩; have BX := hid (BX.out.keep hb); clear hb t0 t1 t2 t3 t4 t5 t6 t7 t8 t9 t10; obtain ⟨t0, t1, t2, t3, t4, t5, t6, t7, t8, t9, t10⟩ := BX.out.wait; have hz := BX.out.sz))
        go_ret
        exact ⟨rfl, BX.out.low⟩
end Go.Proofs.Ytpkcnojcklmhmaa
