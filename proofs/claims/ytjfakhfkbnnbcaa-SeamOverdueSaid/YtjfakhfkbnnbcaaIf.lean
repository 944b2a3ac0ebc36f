/- Walks of the law's in, of Length: contracts. -/
import Derived.Test.YtjfakhfkbnnbcaaId
namespace Go.Proofs.Ytjfakhfkbnnbcaa
open Go.RowKit

theorem inPB_take {l : List Pr} {k : Nat} {t : Int} (h : k < l.length) : inPB (l.take (k + 1)) t = (inPB (l.take k) t || (decide (l[k].x ≤ t) && decide (t < l[k].y))) := by
  unfold inPB
  rw [List.take_succ_eq_append_getElem h, List.any_append]
  simp
theorem inPB_yes {l : List Pr} {k : Nat} {t : Int} (h : k < l.length) (h1 : l[k].x ≤ t) (h2 : t < l[k].y) : inPB l t = true := by
  unfold inPB
  rw [List.any_eq_true]
  exact ⟨l[k], List.getElem_mem h, by simp [h1, h2]⟩
set_option maxRecDepth 20000 in
set_option maxHeartbeats 4000000 in
theorem in_any (v : Value) (t : Int) (l : List Pr) (w : World) (hr : RowX w v l) : Calls Try.prog 17 #[v, .int .i64 t] w fun e w' => e = .returned (.bool (inPB l t)) ∧ Below w.heap.size w w' := by
  have HR := hid (fun w1 (g : Below w.heap.size w w1) => hr.keep g)
  have hm := hr.most
  unfold maxLen at hm
  obtain ⟨va, vc, rfl⟩ := hr.shape
  obtain ⟨n, hn⟩ : ∃ n, n = l.length := ⟨_, rfl⟩
  have HN := hid hn
  rw [← hn] at hm HR ⊢
  clear hr hn
  go_enter Try.func17, Try.ntmps17
  go_wp2
  go_loopw [5] (fun q wr => ∃ k : Nat, k ≤ n ∧ q = .int .i64 (k : Int) ∧ Hid (inPB (l.take k) t = false) ∧ Hid (Below w.heap.size w wr)) (fun q _ => n - (intOf q).toNat)
  case atStart => exact ⟨0, Nat.zero_le _, rfl, rfl, Below.refl _ _⟩
  case round =>
    obtain ⟨k, hk, rfl, hok, hB⟩ := hrel
    by_cases hlt : k < n
    · have hlt' : (k : Int) < n := by omega
      have hkl : k < l.length := by rw [← HN.out]; exact hlt
      obtain ⟨b, o, hva, c0, c1⟩ := (HR.out _ hB.out).get hkl
      subst hva
      have HY := hid (fun h1 h2 => inPB_yes (t := t) hkl h1 h2)
      have HT := hid (inPB_take (t := t) hkl)
      generalize l[k] = p at *
      obtain ⟨px, py⟩ := p
      simp only at c0 c1
      have HLT := hid hlt
      clear hlt hkl
      by_cases h1 : px ≤ t
      · by_cases h2 : t < py
        · have HE := hid (HY.out h1 h2)
          go_wp2
          go_ret
          exact ⟨ret_bool HE.out.symm, hB.out⟩
        · have HE : Hid (inPB (l.take (k + 1)) t = false) := by
            show inPB _ _ = false
            rw [HT.out, hok.out]; simp; omega
          have h2' : py ≤ t := by omega
          clear h2
          go_wp2
          go_roundw
          case rel => exact ⟨k + 1, HLT.out, by go_num, HE, hB⟩
          case measure => have := HLT.out; simp [intOf]; omega
      · have HE : Hid (inPB (l.take (k + 1)) t = false) := by
          show inPB _ _ = false
          rw [HT.out, hok.out]; simp; omega
        have h1' : t < px := by omega
        clear h1
        go_wp2
        go_roundw
        case rel => exact ⟨k + 1, HLT.out, by go_num, HE, hB⟩
        case measure => have := HLT.out; simp [intOf]; omega
    · obtain rfl : k = n := by omega
      have HE : Hid (inPB l t = false) := by
        have h := hok.out
        rw [HN.out, List.take_length] at h
        exact h
      go_wp2
      go_ret
      exact ⟨ret_bool HE.out.symm, hB.out⟩
/-- Stretches near enough. -/
def RawL (l : List Pr) : Prop := ∀ p ∈ l, -1000000000000000 ≤ p.x ∧ p.x ≤ 1000000000000000 ∧ -1000000000000000 ≤ p.y ∧ p.y ≤ 1000000000000000
theorem canon_mem : ∀ {u : List Pr} {p : Pr}, Canon u → p ∈ u → p.x < p.y
  | [], _, _, h => by cases h
  | q :: u, p, hc, hm => by
    rcases List.mem_cons.1 hm with rfl | hm
    · exact hc.one
    · exact canon_mem hc.tail hm
/-- What has no ticks aside. -/
theorem uni_raw {u l : List Pr} (h : Uni u l) (g : RawL l) : RawL u := by
  intro p hp
  have hpp := canon_mem h.can hp
  obtain ⟨q, hq, a⟩ := (h.same p.x).1 ⟨p, hp, Int.le_refl _, hpp⟩
  obtain ⟨r, hr, b⟩ := (h.same (p.y - 1)).1 ⟨p, hp, by omega, by omega⟩
  have := g q hq
  have := g r hr
  omega
theorem lenP_take {u : List Pr} {k : Nat} (h : k < u.length) : lenP (u.take (k + 1)) = lenP (u.take k) + (u[k].y - u[k].x) := by
  rw [List.take_succ_eq_append_getElem h, lenP_snoc]
theorem lenP_some {u : List Pr} (hr : RawL u) (hc : Canon u) : ∀ k, k ≤ u.length → 0 ≤ lenP (u.take k) ∧ lenP (u.take k) ≤ k * 2000000000000000
  | 0, _ => by simp [lenP]
  | k + 1, h => by
    have ih := lenP_some hr hc k (by omega)
    rw [lenP_take h]
    have h1 := hr u[k] (List.getElem_mem h)
    have h2 := canon_mem hc (List.getElem_mem h)
    omega
def LenP (l : List Pr) (w : World) (e : Ending) (w' : World) : Prop := ∃ m, Uni m l ∧ e = .returned (.int .i64 (lenP m)) ∧ Below w.heap.size w w'
set_option maxRecDepth 20000 in
set_option maxHeartbeats 4000000 in
theorem length_any (v : Value) (l : List Pr) (w : World) (hr : RowX w v l) (hf : l.length ≤ 1000) (hw : RawL l) : Calls Try.prog 19 #[v] w (LenP l w) := by
  have HU := hid (union_any v l w hr (by omega))
  have HF := hid hf
  have HW := hid hw
  clear hr hf hw
  go_enter Try.func19, Try.ntmps19
  go_wp2_with fail
  refine HU.out.mono ?_
  rintro e w1 ⟨u, m, rfl, hm, hown, hb⟩
  have hrow := hown.row
  have HUN := hid hm
  have HMR := hid (uni_raw hm HW.out)
  have HSM := hid (lenP_some (uni_raw hm HW.out) hm.can)
  have hfew : m.length ≤ 1000 := Nat.le_trans hm.few HF.out
  have HB := hid hb
  have HR := hid (fun w2 (g : Below w1.heap.size w1 w2) => hrow.keep g)
  obtain ⟨va, vc, rfl⟩ := hrow.shape
  obtain ⟨n, hn⟩ : ∃ n, n = m.length := ⟨_, rfl⟩
  have HN := hid hn
  rw [← hn] at hfew HR ⊢
  clear hm hown hrow hb hn HU HF HW
  go_wp2
  go_loopw [3, 9] (fun a t wr => ∃ k : Nat, k ≤ n ∧ t = .int .i64 (k : Int) ∧ a = .int .i64 (lenP (m.take k)) ∧ Hid (Below w1.heap.size w1 wr)) (fun _ t _ => n - (intOf t).toNat)
  case atStart => exact ⟨0, Nat.zero_le _, rfl, rfl, Below.refl _ _⟩
  case round =>
    obtain ⟨k, hk, rfl, rfl, hB⟩ := hrel
    by_cases hlt : k < n
    · have hlt' : (k : Int) < n := by omega
      have hkl : k < m.length := by rw [← HN.out]; exact hlt
      obtain ⟨b, o, hva, c0, c1⟩ := (HR.out _ hB.out).get hkl
      subst hva
      have hx := HMR.out m[k] (List.getElem_mem hkl)
      have HT := hid (lenP_take hkl)
      obtain ⟨s0, s1⟩ := HSM.out k (Nat.le_of_lt hkl)
      generalize m[k] = p at *
      obtain ⟨px, py⟩ := p
      simp only at c0 c1 hx
      generalize lenP (m.take k) = A at *
      obtain ⟨x1, x2, x3, x4⟩ := hx
      have s2 : A ≤ 2000000000000000000 := by omega
      have q1 : IntKind.i64.wrap (py - px) = py - px := IntWalk.i64_in _ ⟨by omega, by omega⟩
      have q2 : IntKind.i64.wrap (A + (py - px)) = A + (py - px) := IntWalk.i64_in _ ⟨by omega, by omega⟩
      have HB1 := hid (hB.out.alloc hB.out.size (.cells #[.int .i64 px, .int .i64 py] 68))
      have HLT := hid hlt
      clear hlt hkl
      go_wp2
      go_roundw
      case rel => exact ⟨k + 1, HLT.out, by go_num, by rw [HT.out], HB1⟩
      case measure => have := HLT.out; simp [intOf]; omega
    · obtain rfl : k = n := by omega
      have HE : Hid (lenP (m.take k) = lenP m) := by
        show lenP _ = _
        rw [HN.out, List.take_length]
      go_wp2
      go_ret
      exact ⟨m, HUN.out, ret_int HE.out, bstep HB.out HB.out.size hB.out⟩
end Go.Proofs.Ytjfakhfkbnnbcaa
