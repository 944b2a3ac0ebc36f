/- ProcessHotter: plain facts: the hotter list, and that it is never less lethal. -/
import Derived.Test.YtedfajokiblfhaaPdv
namespace Go.Proofs.Ytedfajokiblfhaa
open Go.RowKit Go.Lib

theorem mask16 (x : Int) : 0 ≤ bits .and .i64 x 65535 ∧ bits .and .i64 x 65535 ≤ 65535 := by
  have h2 : (BitVec.ofInt 64 (65535 : Int)).toNat = 65535 := by decide
  have h : bits .and .i64 x 65535 = IntKind.i64.wrap (((BitVec.ofInt 64 x).toNat &&& 65535 : Nat) : Int) := by
    show IntKind.i64.wrap ((BitVec.ofInt 64 x &&& BitVec.ofInt 64 65535).toNat : Int) = _
    rw [BitVec.toNat_and, h2]
  have h3 : (BitVec.ofInt 64 x).toNat &&& 65535 ≤ 65535 := Nat.and_le_right
  rw [h, wrap_i64 (by omega) (by omega)]
  omega
def capT (x : Int) : Int := if 200000 < x then 200000 else x
/-- The i-th of the hotter list. -/
def hotF (p y : List Int) (i : Nat) : Int := if i < y.length then capT (p.getD i 0 + bits .and .i64 (y.getD i 0) 65535) else p.getD i 0
def hotL (p y : List Int) (k : Nat) : List Int := (List.range k).map (hotF p y)
theorem hotL_len (p y : List Int) (k : Nat) : (hotL p y k).length = k := by simp [hotL]
theorem hotL_succ (p y : List Int) (k : Nat) : hotL p y (k + 1) = hotL p y k ++ [hotF p y k] := by simp [hotL, List.range_succ]
theorem hotF_bd {p y : List Int} (h : okL p = true) {i : Nat} (hi : i < p.length) : p[i] ≤ hotF p y i ∧ okT (hotF p y i) = true := by
  have hb : -50000 ≤ p[i] ∧ p[i] ≤ 200000 := okL_bd h _ (List.getElem_mem hi)
  have hg : p.getD i 0 = p[i] := by simp [List.getD, hi]
  have hm := mask16 (y.getD i 0)
  unfold hotF capT
  rw [hg]
  generalize bits .and .i64 (y.getD i 0) 65535 = m at *
  generalize p[i] = x at *
  split
  · split <;> simp [okT] <;> omega
  · simp [okT]; omega
theorem hotL_ok {p y : List Int} (h : okL p = true) : okL (hotL p y p.length) = true := by
  unfold okL hotL
  rw [List.all_eq_true]
  intro x hx
  obtain ⟨i, hi, rfl⟩ := List.mem_map.1 hx
  exact (hotF_bd h (List.mem_range.1 hi)).2
theorem hotL_le {p y : List Int} (h : okL p = true) : leL p (hotL p y p.length) := by
  intro i a c
  have : (hotL p y p.length)[i] = hotF p y i := by simp [hotL]
  rw [this]
  exact (hotF_bd h a).1
/-- Hotter is never less lethal; and it can be told wherever the colder can. -/
theorem hotter_le {r l a b a2 b2 : Int} {q : Kl} {t u : Int} {p y : List Int} (hc : chk4 (canB r l a b 0 a2 b2) q.vB t p = 0) (hu : okT u = true) (htu : t ≤ u) :
    chk4 (canB r l a b 0 a2 b2) q.vB u (hotL p y p.length) = 0 ∧ lowO (sumsO r l a b 0 a2 b2 q t p) ≤ lowO (sumsO r l a b 0 a2 b2 q u (hotL p y p.length)) := by
  obtain ⟨hcan, hk, ho, hop, hlen⟩ := chk4_zero hc
  have hop2 := hotL_ok (y := y) hop
  have hc2 : chk4 (canB r l a b 0 a2 b2) q.vB u (hotL p y p.length) = 0 := by
    refine chk4_ok ?_ ?_ (by rw [hotL_len]; omega)
    · rw [hcan, hk]; rfl
    · rw [hu, hop2]; rfl
  refine ⟨hc2, ?_⟩
  obtain ⟨e1, p1, _⟩ := sumsO_len hc
  obtain ⟨e2, _, _⟩ := sumsO_len hc2
  rw [lowO_min (by omega), lowO_min (by omega)]
  obtain ⟨c, hcv, rfl, rfl, rfl, rfl, hK, rfl, rfl⟩ := canB_cn hcan
  obtain ⟨Z, hz, hv⟩ := kl_of hk
  have hK0 : c.K = 0 := hK.symm
  have hcn : cnOf (c.R : Int) c.L c.A c.B 0 c.A2 c.B2 = c := by rw [hK]; exact cnOf_cn c
  have hf : ∀ x y : Int, x ≤ y → Lt.Pm.rateD q.r q.z (x / 250) ≤ Lt.Pm.rateD q.r q.z (y / 250) := fun x y hxy => by
    have hz1 := (Lt.validB_iff.1 hv).2.2.1.1
    exact Lt.Pm.rateD_mono (by rw [hz]; exact hz1) (by omega)
  unfold sumsO
  rw [if_pos hc, if_pos hc2, hcn]
  have h := LeD.run (f := fun x => Lt.Pm.rateD q.r q.z (x / 250)) hcv.ok hK0 hf p (hotL p y p.length) _ _ (hotL_len p y p.length).symm (hotL_le hop) hop hop2 (dish0_le hK0 ho hu htu)
  exact h.low hcv.ok
end Go.Proofs.Ytedfajokiblfhaa
