/- Texts of this seat, one behind the other. -/
import Derived.Test.YtihbjimnjhfpeaaG12
/- Walk of HeatHotter. -/
namespace Go.Proofs.Ytihbjimnjhfpeaa
open Go.RowKit

theorem run_shape (r l a b k a2 b2 : Int) (w : World) (v : Value) (T : List Int) (br : Bool) (v2 : Value) (l2 : List Int) (hl : RowI w v T) (hl2 : RowI w v2 l2) :
    Calls Try.prog 72 #[.agg #[.int .i64 r, .int .i64 l, .int .i64 a, .int .i64 b, .int .i64 k, .int .i64 a2, .int .i64 b2], .agg #[v, .bool br], v2] w fun e w' => ∃ (ua : Option Addr) (n cap : Nat) (bu : Bool), e = .returned (.tuple #[.agg #[.slice ua n cap, .bool bu], .int .i64 (chkE (bothB r l a b k a2 b2 T br) l2)]) ∧ Below w.heap.size w w' := by
  rcases chkE_cases (bothB r l a b k a2 b2 T br) l2 with hne | ⟨h0, hbb, ho, hlen⟩
  · exact (run_err r l a b k a2 b2 w v T br v2 l2 hl hl2 hne).mono fun e w' ⟨h, hb⟩ => ⟨_, _, _, _, h, hb⟩
  · rw [h0]
    unfold bothB at hbb
    rw [Bool.and_eq_true] at hbb
    obtain ⟨hcan, hbody⟩ := hbb
    obtain ⟨c, hcv, rfl, rfl, rfl, rfl, rfl, rfl, rfl⟩ := canB_cn hcan
    exact (run_ok c (T, br) v v2 l2 w hcv hbody ho hlen hl hl2).mono fun e w' ⟨u, h, ⟨g, hu, _⟩, hb⟩ => by subst hu; exact ⟨_, _, _, _, h, hb⟩
end Go.Proofs.Ytihbjimnjhfpeaa

/- One contract for Run, whatever comes in: what comes back is a plain function of what came in. -/
namespace Go.Proofs.Ytihbjimnjhfpeaa
open Go.RowKit

/-- The can of seven numbers. -/
def cnOf (r l a b k a2 b2 : Int) : Cn := ⟨r.toNat, l.toNat, a, b, k, a2, b2⟩
theorem cnOf_cn (c : Cn) : cnOf c.R c.L c.A c.B c.K c.A2 c.B2 = c := by simp [cnOf]
/-- What Run hands back: a body and an error. -/
def runO (r l a b k a2 b2 : Int) (x : Bd) (p : List Int) : Bd × Int :=
  if chkE (bothB r l a b k a2 b2 x.1 x.2) p = 0 then (runS (cnOf r l a b k a2 b2) x p, 0) else (([], false), chkE (bothB r l a b k a2 b2 x.1 x.2) p)
theorem runO_ok {r l a b k a2 b2 : Int} {x : Bd} {p : List Int} (h : chkE (bothB r l a b k a2 b2 x.1 x.2) p = 0) : runO r l a b k a2 b2 x p = (runS (cnOf r l a b k a2 b2) x p, 0) := by unfold runO; rw [if_pos h]
theorem runO_err {r l a b k a2 b2 : Int} {x : Bd} {p : List Int} (h : chkE (bothB r l a b k a2 b2 x.1 x.2) p ≠ 0) : runO r l a b k a2 b2 x p = (([], false), chkE (bothB r l a b k a2 b2 x.1 x.2) p) := by unfold runO; rw [if_neg h]
theorem runO_code (r l a b k a2 b2 : Int) (x : Bd) (p : List Int) : (runO r l a b k a2 b2 x p).2 = chkE (bothB r l a b k a2 b2 x.1 x.2) p := by
  by_cases h : chkE (bothB r l a b k a2 b2 x.1 x.2) p = 0
  · rw [runO_ok h, h]
  · rw [runO_err h]
/-- What comes back for O: a body that reads as it, and the error. -/
def OutB (O : Bd × Int) (w : World) (e : Ending) (w' : World) : Prop :=
  ∃ (ua : Option Addr) (cap : Nat), e = .returned (.tuple #[.agg #[.slice ua O.1.1.length cap, .bool O.1.2], .int .i64 O.2]) ∧ RowI w' (.slice ua O.1.1.length cap) O.1.1 ∧ Below w.heap.size w w'
theorem outB_nil {n : Int} {w : World} {e : Ending} {w' : World} (h : e = .returned (.tuple #[.agg #[.slice none 0 0, .bool false], .int .i64 n])) (hb : Below w.heap.size w w') : OutB (([], false), n) w e w' :=
  ⟨none, 0, h, .inl ⟨_, _, rfl, rfl⟩, hb⟩
/-- A body that is valid for a valid can. -/
theorem both_open {r l a b k a2 b2 : Int} {T : List Int} {br : Bool} (h : bothB r l a b k a2 b2 T br = true) : ∃ c : Cn, c.V ∧ (r = c.R ∧ l = c.L ∧ a = c.A ∧ b = c.B ∧ k = c.K ∧ a2 = c.A2 ∧ b2 = c.B2) ∧ bodyV c T br = true ∧ Warm c (T, br) := by
  unfold bothB at h
  rw [Bool.and_eq_true] at h
  obtain ⟨hcan, hbody⟩ := h
  obtain ⟨c, hcv, rfl, rfl, rfl, rfl, rfl, rfl, rfl⟩ := canB_cn hcan
  have hbv : bodyV c T br = true := hbody
  obtain ⟨h1, _, h3⟩ := bodyV_iff.1 hbv
  exact ⟨c, hcv, ⟨rfl, rfl, rfl, rfl, rfl, rfl, rfl⟩, hbv, ⟨h1, okL_bd h3⟩⟩
theorem run_all (r l a b k a2 b2 : Int) (w : World) (v : Value) (T : List Int) (br : Bool) (v2 : Value) (p : List Int) (hl : RowI w v T) (hl2 : RowI w v2 p) :
    Calls Try.prog 72 #[.agg #[.int .i64 r, .int .i64 l, .int .i64 a, .int .i64 b, .int .i64 k, .int .i64 a2, .int .i64 b2], .agg #[v, .bool br], v2] w (OutB (runO r l a b k a2 b2 (T, br) p) w) := by
  rcases chkE_cases (bothB r l a b k a2 b2 T br) p with hne | ⟨h0, hbb, ho, hlen⟩
  · rw [runO_err hne]
    exact (run_err r l a b k a2 b2 w v T br v2 p hl hl2 hne).mono fun e w' ⟨h, hb⟩ => outB_nil h hb
  · rw [runO_ok h0]
    obtain ⟨c, hcv, ⟨rfl, rfl, rfl, rfl, rfl, rfl, rfl⟩, hbv, hwm⟩ := both_open hbb
    rw [cnOf_cn]
    have hl48 : (runS c (T, br) p).1.length ≤ 48 := by have h1 := (hwm.run hcv.ok (okL_bd ho)).len; have := hcv.ok.p; unfold Cn.P at this; omega
    refine (run_ok c (T, br) v v2 p w hcv hbv ho hlen hl hl2).mono fun e w' ⟨u, h, hr, hb⟩ => ?_
    have hr' := hr.rowI hl48
    obtain ⟨g, rfl, _⟩ := hr
    exact ⟨_, _, h, hr', hb⟩
theorem step_all (r l a b k a2 b2 : Int) (w : World) (v : Value) (T : List Int) (br : Bool) (bath : Int) (hl : RowI w v T) :
    Calls Try.prog 63 #[.agg #[.int .i64 r, .int .i64 l, .int .i64 a, .int .i64 b, .int .i64 k, .int .i64 a2, .int .i64 b2], .agg #[v, .bool br], .int .i64 bath] w (OutB (runO r l a b k a2 b2 (T, br) [bath]) w) := by
  rcases chkE_cases (bothB r l a b k a2 b2 T br) [bath] with hne | ⟨h0, hbb, ho, hlen⟩
  · rw [runO_err hne]
    exact (step_err r l a b k a2 b2 w v T br bath hl hne).mono fun e w' ⟨h, hb⟩ => outB_nil h hb
  · rw [runO_ok h0]
    obtain ⟨c, hcv, ⟨rfl, rfl, rfl, rfl, rfl, rfl, rfl⟩, hbv, hwm⟩ := both_open hbb
    rw [cnOf_cn]
    have hl48 : (runS c (T, br) [bath]).1.length ≤ 48 := by have h1 := (hwm.run hcv.ok (okL_bd ho)).len; have := hcv.ok.p; unfold Cn.P at this; omega
    refine (step_ok c (T, br) v bath w hcv hbv ho hl).mono fun e w' ⟨u, h, hr, hb⟩ => ?_
    have hr' := hr.rowI hl48
    obtain ⟨g, rfl, _⟩ := hr
    exact ⟨_, _, h, hr', hb⟩

/-- A body stays valid for its can in ticks. -/
theorem runS_brk {c : Cn} (hK : c.K = 0) : ∀ (p : List Int) (x : Bd), x.2 = false → (runS c x p).2 = false
  | [], _, h => h
  | b :: p, x, h => runS_brk hK p (tickS c x b) (by simp [tickS, brk, h, hK])
theorem body_run {c : Cn} (hc : c.Ok) {x : Bd} {p : List Int} (hb : bodyV c x.1 x.2 = true) (ho : okL p = true) : bodyV c (runS c x p).1 (runS c x p).2 = true := by
  obtain ⟨h1, h2, h3⟩ := bodyV_iff.1 hb
  have hw : Warm c x := ⟨h1, okL_bd h3⟩
  have hr := hw.run hc (okL_bd ho)
  refine bodyV_iff.2 ⟨hr.len, ?_, okL_of hr.bd⟩
  rcases h2 with h2 | h2
  · by_cases hK : c.K = 0
    · exact .inl (runS_brk hK p x h2)
    · exact .inr hK
  · exact .inr h2
theorem okL_append (l m : List Int) : okL (l ++ m) = (okL l && okL m) := by unfold okL; exact List.all_append
/-- Ticks in two lists, one after the other. -/
theorem runO_cut {r l a b k a2 b2 : Int} {x : Bd} {p q : List Int} (hp : p.length ≤ 80) (hq : q.length ≤ 80) (h : (runO r l a b k a2 b2 x p).2 = 0) : runO r l a b k a2 b2 x (p ++ q) = runO r l a b k a2 b2 (runO r l a b k a2 b2 x p).1 q := by
  rw [runO_code] at h
  rcases chkE_cases (bothB r l a b k a2 b2 x.1 x.2) p with hne | ⟨_, hbb, ho, _⟩
  · exact absurd h hne
  · rw [runO_ok h]
    obtain ⟨c, hcv, ⟨rfl, rfl, rfl, rfl, rfl, rfl, rfl⟩, hbv, hwm⟩ := both_open hbb
    rw [cnOf_cn]
    have h2 : bothB c.R c.L c.A c.B c.K c.A2 c.B2 (runS c x p).1 (runS c x p).2 = true := by rw [bothB_cn c hcv]; exact body_run hcv.ok hbv ho
    have h3 : chkE (bothB c.R c.L c.A c.B c.K c.A2 c.B2 x.1 x.2) (p ++ q) = chkE (bothB c.R c.L c.A c.B c.K c.A2 c.B2 (runS c x p).1 (runS c x p).2) q := by
      rw [hbb, h2]
      unfold chkE
      rw [okL_append, ho, Bool.true_and, List.length_append, if_neg (show ¬ 2000 < p.length + q.length by omega), if_neg (show ¬ 2000 < q.length by omega)]
    unfold runO
    rw [h3, cnOf_cn, runS_append]
theorem runO_bad {r l a b k a2 b2 : Int} {x : Bd} {p q : List Int} (hp : p.length ≤ 80) (h : (runO r l a b k a2 b2 x p).2 ≠ 0) : (runO r l a b k a2 b2 x (p ++ q)).2 ≠ 0 := by
  rw [runO_code] at h ⊢
  cases hb : bothB r l a b k a2 b2 x.1 x.2 with
  | false => rw [chkE_no]; decide
  | true =>
    rw [hb] at h
    cases ho : okL p with
    | false => rw [chkE_bad (by rw [okL_append, ho]; rfl)]; decide
    | true => exact absurd (chkE_ok ho (by omega)) h
end Go.Proofs.Ytihbjimnjhfpeaa
