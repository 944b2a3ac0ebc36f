/- Walk of Heads of the code: contract. -/
import Derived.Test.YtjfakhfkbnnbcaaZe
namespace Go.Proofs.Ytjfakhfkbnnbcaa
open Go.RowKit Go.Maps

theorem shs_heads {l : List Sh} (h : shsB l = true) : ∀ k (hk : k < l.length), 1 ≤ l[k].hd ∧ l[k].hd ≤ 12 := by
  intro k hk
  unfold shsB at h
  simp only [Bool.and_eq_true, decide_eq_true_iff] at h
  have h1 := allB_iff.1 h.2 k hk
  unfold oneS at h1
  simp only [Bool.and_eq_true] at h1
  have e : l.getD k shD = l[k] := by simp [List.getD, hk]
  rw [e] at h1
  have h2 := h1.1
  unfold shB at h2
  simp only [Bool.and_eq_true, inB_iff] at h2
  omega
end Go.Proofs.Ytjfakhfkbnnbcaa
