/- Turning a body commutes with its ticks: plain facts. -/
import Derived.Test.YtpkcnojcklmhmaaQj
import Derived.Test.YtpkcnojcklmhmaaHv
namespace Go.Proofs.Ytpkcnojcklmhmaa
open Go.RowKit

/-- The temperatures upside down. -/
def mir (R L : Nat) (T : List Int) : List Int := tuL T R L (L * R)
theorem mir_len (R L : Nat) (T : List Int) : (mir R L T).length = L * R := tuL_len _ _ _ _
theorem mir_get {R L : Nat} {T : List Int} {i : Nat} (h : i < L * R) : (mir R L T).getD i 0 = T.getD ((L - 1 - i / R) * R + i % R) 0 := by
  rw [getD_at (by rw [mir_len]; exact h)]
  simp [mir, tuL]
theorem qr {R p q : Nat} (hp : p < R) : (q * R + p) / R = q ∧ (q * R + p) % R = p :=
  ⟨by rw [Nat.add_comm, Nat.add_mul_div_right _ _ (by omega), Nat.div_eq_of_lt hp, Nat.zero_add], by rw [Nat.add_comm, Nat.add_mul_mod_self_right, Nat.mod_eq_of_lt hp]⟩
theorem nearT_mir {R L : Nat} {T : List Int} {b : Int} (r l : Int) : nearT R L (mir R L T) b r l = nearT R L T b r ((L : Int) - 1 - l) := by
  by_cases g : 0 ≤ r ∧ r < R ∧ 0 ≤ l ∧ l < L
  · rw [nearT_in g, nearT_in (by omega)]
    obtain ⟨p, q, rfl, rfl, hp, hq, e⟩ := idx_nat g
    have hi := idx_lt hp hq
    rw [Nat.mul_comm R L] at hi
    rw [e, mir_get hi, (qr hp).1, (qr hp).2]
    have e2 : (L : Int) - 1 - (q : Int) = ((L - 1 - q : Nat) : Int) := by omega
    rw [e2, ← Int.natCast_mul, ← Int.natCast_add, Int.toNat_natCast]
  · rw [nearT_out g, nearT_out (by omega)]
theorem num_swap (A B : Int) (r : Nat) (x1 x2 x3 x4 x5 : Int) : num A B r x1 x2 x3 x4 x5 = num A B r x1 x2 x4 x3 x5 := by
  unfold num; rw [Int.add_comm x3 x4]
theorem mixT_mir {R L : Nat} {A B : Int} {T : List Int} {b : Int} {r l : Nat} (hl : l < L) : mixT R L A B (mir R L T) b r l = mixT R L A B T b r (L - 1 - l) := by
  unfold mixT
  rw [nearT_mir, nearT_mir, nearT_mir, nearT_mir, nearT_mir, num_swap]
  have e0 : (L : Int) - 1 - (l : Int) = ((L - 1 - l : Nat) : Int) := by omega
  have e1 : (L : Int) - 1 - ((l : Int) - 1) = ((L - 1 - l : Nat) : Int) + 1 := by omega
  have e2 : (L : Int) - 1 - ((l : Int) + 1) = ((L - 1 - l : Nat) : Int) - 1 := by omega
  rw [e0, e1, e2]
theorem tickT_mir {R L : Nat} {A B : Int} {T : List Int} {b : Int} (hR : 0 < R) : tickT R L A B (mir R L T) b = mir R L (tickT R L A B T b) := by
  apply List.ext_getElem (by rw [tickT_len, mir_len, Nat.mul_comm])
  intro i h1 h2
  have hi : i < L * R := by rw [mir_len] at h2; exact h2
  obtain ⟨g1, g2, g3⟩ := tu_idx (R := R) (L := L) (n := i) hR hi
  have hL : 0 < L := by rcases Nat.eq_zero_or_pos L with h | h; · subst h; simp at hi
                        · exact h
  have g4 : i / R < L := by omega
  rw [tickT_get, mixT_mir g4, ← getD_at h2, mir_get hi, getD_at (by rw [tickT_len, Nat.mul_comm R L]; exact g1), tickT_get, (qr g3).1, (qr g3).2]
theorem mir_mem {R L : Nat} {T : List Int} (hR : 0 < R) (hT : T.length = L * R) {x : Int} (h : x ∈ mir R L T) : x ∈ T := by
  obtain ⟨i, hi, rfl⟩ := List.getElem_of_mem h
  have hi' := hi
  rw [mir_len] at hi'
  have g1 := (tu_idx (R := R) (L := L) (n := i) hR hi').1
  rw [← getD_at hi, mir_get hi', getD_at (by rw [hT]; exact g1)]
  exact List.getElem_mem _
theorem mir_mir {R L : Nat} {T : List Int} (hR : 0 < R) (hT : T.length = L * R) : mir R L (mir R L T) = T := by
  apply List.ext_getElem (by rw [mir_len, hT])
  intro i h1 h2
  have hi : i < L * R := by rw [hT] at h2; exact h2
  obtain ⟨g1, g2, g3⟩ := tu_idx (R := R) (L := L) (n := i) hR hi
  rw [← getD_at h1, mir_get hi, mir_get g1, (qr g3).1, (qr g3).2]
  have hL : 0 < L := by rcases Nat.eq_zero_or_pos L with h | h; · subst h; simp at hi
                        · exact h
  have e : ∀ q : Nat, q ≤ L - 1 → L - 1 - (L - 1 - q) = q := fun q hq => by omega
  rw [getD_at (by rw [e _ g2, Nat.mul_comm, Nat.div_add_mod]; exact h2)]
  congr 1
  rw [e _ g2, Nat.mul_comm, Nat.div_add_mod]
theorem minT_mir {R L : Nat} {T : List Int} (hR : 0 < R) (hL : 0 < L) (hT : T.length = L * R) : minT (mir R L T) = minT T := by
  have h0 : 0 < L * R := Nat.mul_pos hL hR
  have h1 := minT_le T (mir_mem hR hT (minT_mem (mir R L T) (by rw [mir_len]; exact h0)))
  have h2 : minT T ∈ mir R L T := mir_mem hR (mir_len R L T) (by rw [mir_mir hR hT]; exact minT_mem T (by omega))
  have h3 := minT_le _ h2
  omega
theorem tickS_mir {c : Cn} {T : List Int} {br : Bool} {b : Int} (hc : c.Ok) : tickS c (mir c.R c.L T, br) b = (mir c.R c.L (tickS c (T, br) b).1, (tickS c (T, br) b).2) := by
  unfold tickS
  have hR : 0 < c.R := hc.r1
  simp only
  rw [tickT_mir hR]
  unfold brk
  rw [minT_mir hR hc.l1 (by rw [tickT_len, Nat.mul_comm])]
theorem runS_mir {c : Cn} (hc : c.Ok) : ∀ (p : List Int) (x : Bd), runS c (mir c.R c.L x.1, x.2) p = (mir c.R c.L (runS c x p).1, (runS c x p).2)
  | [], _ => rfl
  | b :: p, x => by
    unfold runS
    rw [List.foldl_cons, List.foldl_cons, tickS_mir hc]
    exact runS_mir hc p _
theorem turn_run {r l a b k a2 b2 : Int} {x : Bd} {p : List Int} (hy : (turnO r l a b k a2 b2 x).2 = 0) (h1 : (runO r l a b k a2 b2 x p).2 = 0) :
    (runO r l a b k a2 b2 (turnO r l a b k a2 b2 x).1 p).2 = 0 ∧ (turnO r l a b k a2 b2 (runO r l a b k a2 b2 x p).1).2 = 0 ∧ (runO r l a b k a2 b2 (turnO r l a b k a2 b2 x).1 p).1 = (turnO r l a b k a2 b2 (runO r l a b k a2 b2 x p).1).1 := by
  cases hbb : bothB r l a b k a2 b2 x.1 x.2 with
  | false => rw [turnO_can hbb] at hy; simp at hy
  | true =>
  rw [turnO_ok hbb, runO_ok (x := x) (p := p) (by rw [← runO_code]; exact h1)]
  rw [runO_code] at h1
  rcases chkE_cases (bothB r l a b k a2 b2 x.1 x.2) p with hne | ⟨_, _, ho, hlen⟩
  · exact absurd h1 hne
  obtain ⟨c, hcv, ⟨rfl, rfl, rfl, rfl, rfl, rfl, rfl⟩, hbv, hwm⟩ := both_open hbb
  obtain ⟨T, br⟩ := x
  obtain ⟨hxl, hxk, hxo⟩ := bodyV_iff.1 hbv
  have hR : 0 < c.R := hcv.ok.r1
  have hTl : T.length = c.L * c.R := by rw [Nat.mul_comm]; exact hwm.len
  have hrt : (c.R : Int).toNat = c.R := by simp
  have hlt : (c.L : Int).toNat = c.L := by simp
  rw [cnOf_cn, hrt, hlt]
  simp only
  have hm : flL T c.R c.L c.L = mir c.R c.L T := (tuL_fl hR hTl c.L (Nat.le_refl _)).symm
  have hb2 : bothB c.R c.L c.A c.B c.K c.A2 c.B2 (mir c.R c.L T) br = true := by
    rw [bothB_cn c hcv]
    exact bodyV_iff.2 ⟨by rw [mir_len, Nat.mul_comm]; rfl, hxk, okL_of fun t ht => okL_bd hxo t (mir_mem hR hTl ht)⟩
  have hb3 := body_run hcv.ok hbv ho
  have hb3' : bothB c.R c.L c.A c.B c.K c.A2 c.B2 (runS c (T, br) p).1 (runS c (T, br) p).2 = true := by rw [bothB_cn c hcv]; exact hb3
  rw [hm, runO_ok (x := (mir c.R c.L T, br)) (p := p) (by dsimp only; rw [hb2, ← hbb]; exact h1), turnO_ok (x := runS c (T, br) p) hb3', cnOf_cn, hrt, hlt]
  refine ⟨rfl, rfl, ?_⟩
  have hw := (hwm.run hcv.ok (okL_bd ho)).len
  have hm2 : flL (runS c (T, br) p).1 c.R c.L c.L = mir c.R c.L (runS c (T, br) p).1 := (tuL_fl hR (by rw [hw, Nat.mul_comm]) c.L (Nat.le_refl _)).symm
  dsimp only
  rw [hm2]
  exact runS_mir hcv.ok p (T, br)
/-- What comes back for O, with room in its slice. -/
def OutC (O : Bd × Int) (w : World) (e : Ending) (w' : World) : Prop :=
  ∃ (ua : Option Addr) (cap : Nat), e = .returned (.tuple #[.agg #[.slice ua O.1.1.length cap, .bool O.1.2], .int .i64 O.2]) ∧ RowI w' (.slice ua O.1.1.length cap) O.1.1 ∧ CapR (.slice ua O.1.1.length cap) O.1.1 ∧ Below w.heap.size w w'
theorem run_allC (r l a b k a2 b2 : Int) (w : World) (v : Value) (T : List Int) (br : Bool) (v2 : Value) (p : List Int) (hl : RowI w v T) (hl2 : RowI w v2 p) :
    Calls Try.prog 15 #[.agg #[.int .i64 r, .int .i64 l, .int .i64 a, .int .i64 b, .int .i64 k, .int .i64 a2, .int .i64 b2], .agg #[v, .bool br], v2] w (OutC (runO r l a b k a2 b2 (T, br) p) w) := by
  rcases chkE_cases (bothB r l a b k a2 b2 T br) p with hne | ⟨h0, hbb, ho, hlen⟩
  · rw [runO_err hne]
    exact (run_err r l a b k a2 b2 w v T br v2 p hl hl2 hne).mono fun e w' ⟨h, hb⟩ => ⟨none, 0, h, .inl ⟨_, _, rfl, rfl⟩, ⟨_, _, rfl, Nat.le_refl _, by omega⟩, hb⟩
  · rw [runO_ok h0]
    obtain ⟨c, hcv, ⟨rfl, rfl, rfl, rfl, rfl, rfl, rfl⟩, hbv, hwm⟩ := both_open hbb
    rw [cnOf_cn]
    have hl48 : (runS c (T, br) p).1.length ≤ 48 := by have h1 := (hwm.run hcv.ok (okL_bd ho)).len; have := hcv.ok.p; unfold Cn.P at this; omega
    refine (run_ok c (T, br) v v2 p w hcv hbv ho hlen hl hl2).mono fun e w' ⟨u, h, hr, hb⟩ => ?_
    have hr' := hr.rowI hl48
    obtain ⟨g, rfl, _⟩ := hr
    exact ⟨_, _, h, hr', ⟨_, _, rfl, Nat.le_refl _, by omega⟩, hb⟩
end Go.Proofs.Ytpkcnojcklmhmaa
