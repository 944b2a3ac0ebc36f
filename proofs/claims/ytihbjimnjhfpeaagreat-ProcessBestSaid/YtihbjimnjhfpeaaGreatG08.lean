/- Texts of this seat, one behind the other. -/
import Derived.Test.YtihbjimnjhfpeaaGreatG07
import Derived.Test.YtihbjimnjhfpeaaGreatG01
import Derived.Laws.OwnMore
/- Walk of HeatHotter. -/
namespace Go.Proofs.YtihbjimnjhfpeaaGreat
open Go.RowKit

theorem run_shape (r l a b k a2 b2 : Int) (w : World) (v : Value) (T : List Int) (br : Bool) (v2 : Value) (l2 : List Int) (hl : RowI w v T) (hl2 : RowI w v2 l2) :
    Calls Tryz.prog 151 #[.agg #[.int .i64 r, .int .i64 l, .int .i64 a, .int .i64 b, .int .i64 k, .int .i64 a2, .int .i64 b2], .agg #[v, .bool br], v2] w fun e w' => ∃ (ua : Option Addr) (n cap : Nat) (bu : Bool), e = .returned (.tuple #[.agg #[.slice ua n cap, .bool bu], .int .i64 (chkE (bothB r l a b k a2 b2 T br) l2)]) ∧ Below w.heap.size w w' := by
  rcases chkE_cases (bothB r l a b k a2 b2 T br) l2 with hne | ⟨h0, hbb, ho, hlen⟩
  · exact (run_err r l a b k a2 b2 w v T br v2 l2 hl hl2 hne).mono fun e w' ⟨h, hb⟩ => ⟨_, _, _, _, h, hb⟩
  · rw [h0]
    unfold bothB at hbb
    rw [Bool.and_eq_true] at hbb
    obtain ⟨hcan, hbody⟩ := hbb
    obtain ⟨c, hcv, rfl, rfl, rfl, rfl, rfl, rfl, rfl⟩ := canB_cn hcan
    exact (run_ok c (T, br) v v2 l2 w hcv hbody ho hlen hl hl2).mono fun e w' ⟨u, h, ⟨g, hu, _⟩, hb⟩ => by subst hu; exact ⟨_, _, _, _, h, hb⟩
end Go.Proofs.YtihbjimnjhfpeaaGreat

/- One contract for Run, whatever comes in: what comes back is a plain function of what came in. -/
namespace Go.Proofs.YtihbjimnjhfpeaaGreat
open Go.RowKit

/-- The can of seven numbers. -/
def cnOf (r l a b k a2 b2 : Int) : Cn := ⟨r.toNat, l.toNat, a, b, k, a2, b2⟩
theorem cnOf_cn (c : Cn) : cnOf c.R c.L c.A c.B c.K c.A2 c.B2 = c := by simp [cnOf]
/-- What Run hands back: a body and an error. -/
def runO (r l a b k a2 b2 : Int) (x : Bd) (p : List Int) : Bd × Int :=
  if chkE (bothB r l a b k a2 b2 x.1 x.2) p = 0 then (runS (cnOf r l a b k a2 b2) x p, 0) else (([], false), chkE (bothB r l a b k a2 b2 x.1 x.2) p)
theorem runO_ok {r l a b k a2 b2 : Int} {x : Bd} {p : List Int} (h : chkE (bothB r l a b k a2 b2 x.1 x.2) p = 0) : runO r l a b k a2 b2 x p = (runS (cnOf r l a b k a2 b2) x p, 0) := by unfold runO; rw [if_pos h]
theorem runO_err {r l a b k a2 b2 : Int} {x : Bd} {p : List Int} (h : chkE (bothB r l a b k a2 b2 x.1 x.2) p ≠ 0) : runO r l a b k a2 b2 x p = (([], false), chkE (bothB r l a b k a2 b2 x.1 x.2) p) := by unfold runO; rw [if_neg h]
theorem runO_code (r l a b k a2 b2 : Int) (x : Bd) (p : List Int) : (runO r l a b k a2 b2 x p).2 = chkE (bothB r l a b k a2 b2 x.1 x.2) p := by
  by_cases h : chkE (bothB r l a b k a2 b2 x.1 x.2) p = 0
  · rw [runO_ok h, h]
  · rw [runO_err h]
/-- What comes back for O: a body that reads as it, and the error. -/
def OutB (O : Bd × Int) (w : World) (e : Ending) (w' : World) : Prop :=
  ∃ (ua : Option Addr) (cap : Nat), e = .returned (.tuple #[.agg #[.slice ua O.1.1.length cap, .bool O.1.2], .int .i64 O.2]) ∧ RowI w' (.slice ua O.1.1.length cap) O.1.1 ∧ Below w.heap.size w w'
theorem outB_nil {n : Int} {w : World} {e : Ending} {w' : World} (h : e = .returned (.tuple #[.agg #[.slice none 0 0, .bool false], .int .i64 n])) (hb : Below w.heap.size w w') : OutB (([], false), n) w e w' :=
  ⟨none, 0, h, .inl ⟨_, _, rfl, rfl⟩, hb⟩
/-- A body that is valid for a valid can. -/
theorem both_open {r l a b k a2 b2 : Int} {T : List Int} {br : Bool} (h : bothB r l a b k a2 b2 T br = true) : ∃ c : Cn, c.V ∧ (r = c.R ∧ l = c.L ∧ a = c.A ∧ b = c.B ∧ k = c.K ∧ a2 = c.A2 ∧ b2 = c.B2) ∧ bodyV c T br = true ∧ Warm c (T, br) := by
  unfold bothB at h
  rw [Bool.and_eq_true] at h
  obtain ⟨hcan, hbody⟩ := h
  obtain ⟨c, hcv, rfl, rfl, rfl, rfl, rfl, rfl, rfl⟩ := canB_cn hcan
  have hbv : bodyV c T br = true := hbody
  obtain ⟨h1, _, h3⟩ := bodyV_iff.1 hbv
  exact ⟨c, hcv, ⟨rfl, rfl, rfl, rfl, rfl, rfl, rfl⟩, hbv, ⟨h1, okL_bd h3⟩⟩
theorem run_all (r l a b k a2 b2 : Int) (w : World) (v : Value) (T : List Int) (br : Bool) (v2 : Value) (p : List Int) (hl : RowI w v T) (hl2 : RowI w v2 p) :
    Calls Tryz.prog 151 #[.agg #[.int .i64 r, .int .i64 l, .int .i64 a, .int .i64 b, .int .i64 k, .int .i64 a2, .int .i64 b2], .agg #[v, .bool br], v2] w (OutB (runO r l a b k a2 b2 (T, br) p) w) := by
  rcases chkE_cases (bothB r l a b k a2 b2 T br) p with hne | ⟨h0, hbb, ho, hlen⟩
  · rw [runO_err hne]
    exact (run_err r l a b k a2 b2 w v T br v2 p hl hl2 hne).mono fun e w' ⟨h, hb⟩ => outB_nil h hb
  · rw [runO_ok h0]
    obtain ⟨c, hcv, ⟨rfl, rfl, rfl, rfl, rfl, rfl, rfl⟩, hbv, hwm⟩ := both_open hbb
    rw [cnOf_cn]
    have hl48 : (runS c (T, br) p).1.length ≤ 48 := by have h1 := (hwm.run hcv.ok (okL_bd ho)).len; have := hcv.ok.p; unfold Cn.P at this; omega
    refine (run_ok c (T, br) v v2 p w hcv hbv ho hlen hl hl2).mono fun e w' ⟨u, h, hr, hb⟩ => ?_
    have hr' := hr.rowI hl48
    obtain ⟨g, rfl, _⟩ := hr
    exact ⟨_, _, h, hr', hb⟩
theorem step_all (r l a b k a2 b2 : Int) (w : World) (v : Value) (T : List Int) (br : Bool) (bath : Int) (hl : RowI w v T) :
    Calls Tryz.prog 122 #[.agg #[.int .i64 r, .int .i64 l, .int .i64 a, .int .i64 b, .int .i64 k, .int .i64 a2, .int .i64 b2], .agg #[v, .bool br], .int .i64 bath] w (OutB (runO r l a b k a2 b2 (T, br) [bath]) w) := by
  rcases chkE_cases (bothB r l a b k a2 b2 T br) [bath] with hne | ⟨h0, hbb, ho, hlen⟩
  · rw [runO_err hne]
    exact (step_err r l a b k a2 b2 w v T br bath hl hne).mono fun e w' ⟨h, hb⟩ => outB_nil h hb
  · rw [runO_ok h0]
    obtain ⟨c, hcv, ⟨rfl, rfl, rfl, rfl, rfl, rfl, rfl⟩, hbv, hwm⟩ := both_open hbb
    rw [cnOf_cn]
    have hl48 : (runS c (T, br) [bath]).1.length ≤ 48 := by have h1 := (hwm.run hcv.ok (okL_bd ho)).len; have := hcv.ok.p; unfold Cn.P at this; omega
    refine (step_ok c (T, br) v bath w hcv hbv ho hl).mono fun e w' ⟨u, h, hr, hb⟩ => ?_
    have hr' := hr.rowI hl48
    obtain ⟨g, rfl, _⟩ := hr
    exact ⟨_, _, h, hr', hb⟩

/-- A body stays valid for its can in ticks. -/
theorem runS_brk {c : Cn} (hK : c.K = 0) : ∀ (p : List Int) (x : Bd), x.2 = false → (runS c x p).2 = false
  | [], _, h => h
  | b :: p, x, h => runS_brk hK p (tickS c x b) (by simp [tickS, brk, h, hK])
theorem body_run {c : Cn} (hc : c.Ok) {x : Bd} {p : List Int} (hb : bodyV c x.1 x.2 = true) (ho : okL p = true) : bodyV c (runS c x p).1 (runS c x p).2 = true := by
  obtain ⟨h1, h2, h3⟩ := bodyV_iff.1 hb
  have hw : Warm c x := ⟨h1, okL_bd h3⟩
  have hr := hw.run hc (okL_bd ho)
  refine bodyV_iff.2 ⟨hr.len, ?_, okL_of hr.bd⟩
  rcases h2 with h2 | h2
  · by_cases hK : c.K = 0
    · exact .inl (runS_brk hK p x h2)
    · exact .inr hK
  · exact .inr h2
theorem okL_append (l m : List Int) : okL (l ++ m) = (okL l && okL m) := by unfold okL; exact List.all_append
/-- Ticks in two lists, one after the other. -/
theorem runO_cut {r l a b k a2 b2 : Int} {x : Bd} {p q : List Int} (hp : p.length ≤ 80) (hq : q.length ≤ 80) (h : (runO r l a b k a2 b2 x p).2 = 0) : runO r l a b k a2 b2 x (p ++ q) = runO r l a b k a2 b2 (runO r l a b k a2 b2 x p).1 q := by
  rw [runO_code] at h
  rcases chkE_cases (bothB r l a b k a2 b2 x.1 x.2) p with hne | ⟨_, hbb, ho, _⟩
  · exact absurd h hne
  · rw [runO_ok h]
    obtain ⟨c, hcv, ⟨rfl, rfl, rfl, rfl, rfl, rfl, rfl⟩, hbv, hwm⟩ := both_open hbb
    rw [cnOf_cn]
    have h2 : bothB c.R c.L c.A c.B c.K c.A2 c.B2 (runS c x p).1 (runS c x p).2 = true := by rw [bothB_cn c hcv]; exact body_run hcv.ok hbv ho
    have h3 : chkE (bothB c.R c.L c.A c.B c.K c.A2 c.B2 x.1 x.2) (p ++ q) = chkE (bothB c.R c.L c.A c.B c.K c.A2 c.B2 (runS c x p).1 (runS c x p).2) q := by
      rw [hbb, h2]
      unfold chkE
      rw [okL_append, ho, Bool.true_and, List.length_append, if_neg (show ¬ 2000 < p.length + q.length by omega), if_neg (show ¬ 2000 < q.length by omega)]
    unfold runO
    rw [h3, cnOf_cn, runS_append]
theorem runO_bad {r l a b k a2 b2 : Int} {x : Bd} {p q : List Int} (hp : p.length ≤ 80) (h : (runO r l a b k a2 b2 x p).2 ≠ 0) : (runO r l a b k a2 b2 x (p ++ q)).2 ≠ 0 := by
  rw [runO_code] at h ⊢
  cases hb : bothB r l a b k a2 b2 x.1 x.2 with
  | false => rw [chkE_no]; decide
  | true =>
    rw [hb] at h
    cases ho : okL p with
    | false => rw [chkE_bad (by rw [okL_append, ho]; rfl)]; decide
    | true => exact absurd (chkE_ok ho (by omega)) h
end Go.Proofs.YtihbjimnjhfpeaaGreat

/- Walk of Shifted: contract. -/
namespace Go.Proofs.YtihbjimnjhfpeaaGreat
open Go.RowKit

/-- What Shifted hands back: a body and an error. -/
def shiftO (r l a b k a2 b2 : Int) (x : Bd) (s : Int) : Bd × Int :=
  if bothB r l a b k a2 b2 x.1 x.2 = false then (([], false), 1) else if (decide (-250000 ≤ s) && decide (s ≤ 250000)) = false then (([], false), 7)
  else if okL (x.1.map (· + s)) = false then (([], false), 7) else ((x.1.map (· + s), x.2), 0)
theorem shiftO_can {r l a b k a2 b2 : Int} {x : Bd} {s : Int} (h : bothB r l a b k a2 b2 x.1 x.2 = false) : shiftO r l a b k a2 b2 x s = (([], false), 1) := by unfold shiftO; rw [if_pos h]
theorem shiftO_far {r l a b k a2 b2 : Int} {x : Bd} {s : Int} (h : bothB r l a b k a2 b2 x.1 x.2 = true) (g : (decide (-250000 ≤ s) && decide (s ≤ 250000)) = false) : shiftO r l a b k a2 b2 x s = (([], false), 7) := by unfold shiftO; rw [if_neg (by rw [h]; simp), if_pos g]
theorem shiftO_bad {r l a b k a2 b2 : Int} {x : Bd} {s : Int} (h : bothB r l a b k a2 b2 x.1 x.2 = true) (g : (decide (-250000 ≤ s) && decide (s ≤ 250000)) = true) (h2 : okL (x.1.map (· + s)) = false) : shiftO r l a b k a2 b2 x s = (([], false), 7) := by unfold shiftO; rw [if_neg (by rw [h]; simp), if_neg (by rw [g]; simp), if_pos h2]
theorem shiftO_ok {r l a b k a2 b2 : Int} {x : Bd} {s : Int} (h : bothB r l a b k a2 b2 x.1 x.2 = true) (g : (decide (-250000 ≤ s) && decide (s ≤ 250000)) = true) (h2 : okL (x.1.map (· + s)) = true) : shiftO r l a b k a2 b2 x s = ((x.1.map (· + s), x.2), 0) := by unfold shiftO; rw [if_neg (by rw [h]; simp), if_neg (by rw [g]; simp), if_neg (by rw [h2]; simp)]

/-- A row of ints that the call made. -/
def CloneP (w : World) (l : List Int) (e : Ending) (w' : World) : Prop := ∃ (g cap : Nat), e = .returned (.slice (some ⟨g, 0, none⟩) l.length cap) ∧ w'.ownsRow w.heap.size 3 1 (.slice (some ⟨g, 0, none⟩) l.length cap) (ivs l).length (ivs l) ∧ Below w.heap.size w w'
set_option maxRecDepth 100000 in
set_option maxHeartbeats 1000000 in
theorem clone_yes (w : World) (v : Value) (l : List Int) (hl : RowI w v l) (h0 : 0 < l.length) (hm : l.length ≤ 1000000) : Calls Tryz.prog 123 #[v] w (CloneP w l) := by
  obtain ⟨b, o, cap, rfl, hc⟩ := hl.some h0
  have HS := hid (RowI.src (hl.keep ((Below.refl _ w).alloc (Nat.le_refl _) (.cells #[] 3))))
  obtain ⟨i0, hi, hz0, hz1', hz2'⟩ := info_parts infoIf
  have H0 := hid h0
  clear hl hc h0
  have hnil := Go.Lib.run_eql_slice_nil (P := Tryz.prog) w 28 3 (some ⟨b, o, none⟩) l.length cap 0 0 Tryz.underlying28
  go_enter Tryz.func123, Tryz.ntmps123
  go_wp2_with (first
    | (refine wpList_app rfl (.tmp 5) (.tmp 6) 28 rfl w.heap.size 3 i0 Tryz.underlying28 hi hz0 hz1' hz2' _ [] rfl (own_new rfl (Nat.le_refl _)) _ l rfl HS.out (by simp; omega) (by simp) ?_; intro v3 w6 hA1; have HB6 := hid (app_low ((Below.refl _ w).alloc (Nat.le_refl _) _) (own_new rfl (Nat.le_refl _)) (Nat.le_refl _) hA1); have HO6 := hid (app_first hA1); clear hA1))
  go_ret
  have ho := HO6.out
  rcases ho.2 with ⟨_, h1⟩ | ⟨g, cap', cur, rfl, _⟩
  · rw [ivs_len] at h1; have := H0.out; omega
  · rw [ivs_len] at ho ⊢
    exact ⟨g, cap', rfl, by rw [ivs_len]; exact ho, HB6.out⟩

/-- The temperatures when n have been shifted. -/
def midS (T : List Int) (s : Int) (n : Nat) : List Int := (T.take n).map (· + s) ++ T.drop n
theorem midS_zero (T : List Int) (s : Int) : midS T s 0 = T := by simp [midS]
theorem midS_all (T : List Int) (s : Int) : midS T s T.length = T.map (· + s) := by simp [midS]
theorem midS_len (T : List Int) (s : Int) (n : Nat) : (midS T s n).length = T.length := by simp [midS]; omega
theorem midS_at {T : List Int} {s : Int} {n : Nat} (h : n < T.length) : (midS T s n)[n]? = some T[n] := by
  unfold midS
  rw [List.getElem?_append_right (by simp; omega)]
  simp [show n - min n T.length = 0 by omega, h]
theorem midS_set {T : List Int} {s : Int} {n : Nat} (h : n < T.length) : (midS T s n).set n (T[n] + s) = midS T s (n + 1) := by
  have e : T.drop n = T[n] :: T.drop (n + 1) := List.drop_eq_getElem_cons h
  have e2 : T.take (n + 1) = T.take n ++ [T[n]] := by rw [List.take_add_one, List.getElem?_eq_getElem h]; rfl
  unfold midS
  rw [e, e2, List.set_append_right _ _ (by simp; omega), List.length_map, List.length_take, show n - min n T.length = 0 by omega, List.set_cons_zero, List.map_append, List.append_assoc]
  rfl
theorem ivs_set (l : List Int) (n : Nat) (x : Int) : (ivs l).set n (.int .i64 x) = ivs (l.set n x) := by simp [ivs, List.map_set]
theorem ivs_at {l : List Int} {n : Nat} {x : Int} (h : l[n]? = some x) : (ivs l)[n]? = some (.int .i64 x) := by simp [ivs, h]
theorem R3.other {w W : World} {A B R : Array Value} {g j : Nat} {u : Value} (h : R3 w W A B R) (hg : w.heap.size + 1 + 1 < g) : R3 w (W.setCell ⟨g, j, none⟩ u) A B R :=
  ⟨(heap_setCell_other _ _ _ _ (show w.heap.size ≠ g by omega)).trans h.can, (heap_setCell_other _ _ _ _ (show w.heap.size + 1 ≠ g by omega)).trans h.bod, (heap_setCell_other _ _ _ _ (show w.heap.size + 1 + 1 ≠ g by omega)).trans h.res, h.low.setCell (p := ⟨g, j, none⟩) (by show w.heap.size ≤ g; omega) u⟩
theorem R3.nil {w W : World} {A B : Array Value} {u v : Value} (h : R3 w W A B #[.slice none 0 0, .bool false]) : ((W.setCell ⟨w.heap.size + 1 + 1, 0, none⟩ u).setCell ⟨w.heap.size + 1 + 1, 1, none⟩ v).cell? ⟨w.heap.size + 1 + 1, 0, none⟩ = some u ∧ ((W.setCell ⟨w.heap.size + 1 + 1, 0, none⟩ u).setCell ⟨w.heap.size + 1 + 1, 1, none⟩ v).cell? ⟨w.heap.size + 1 + 1, 1, none⟩ = some v ∧ Below w.heap.size w ((W.setCell ⟨w.heap.size + 1 + 1, 0, none⟩ u).setCell ⟨w.heap.size + 1 + 1, 1, none⟩ v) := by
  obtain ⟨c6, c7, _, c9⟩ := res_set (u := u) (v := v) h
  exact ⟨c6, c7, c9⟩

theorem rowI_far {W : World} {l : List Int} {g n cap m i j : Nat} {u v : Value} (h : RowI W (.slice (some ⟨g, 0, none⟩) n cap) l) (hne : g ≠ m) : RowI ((W.setCell ⟨m, i, none⟩ u).setCell ⟨m, j, none⟩ v) (.slice (some ⟨g, 0, none⟩) n cap) l := by
  rcases h with h | ⟨b, o, c, hz, hm, hc⟩
  · exact .inl h
  · cases hz
    refine .inr ⟨g, 0, cap, rfl, hm, fun k hk => ?_⟩
    rw [← hc k hk]
    exact World.cell?_of_block (a := ⟨g, 0 + k, none⟩) (by rw [heap_setCell_other _ _ _ _ hne, heap_setCell_other _ _ _ _ hne])
end Go.Proofs.YtihbjimnjhfpeaaGreat
