/- Walks of SortFunc, Equal over baskets, inOrder, ValidBaskets: contracts. -/
import Derived.Test.YtikjgbfbbkmmcaaQvq
namespace Go.Proofs.Ytikjgbfbbkmmcaa
open Go.RowKit

theorem io1_lays (g off n : Nat) (w : World) : CmpLays Try.prog 69 #[] encB.cs 4 cmpK g off n w := fun _ _ _ _ p q => io1_any p q _
/-- In order, whatever came at once. -/
def AscB (l : List Bsk) : Prop := l.Pairwise fun x y => ¬ befK y x = true
theorem sorted_ascB {l : List Bsk} (h : Go.Sort.SortedIn (ltOf cmpK) 0 l.length l.toArray) : AscB l := by
  rw [AscB, List.pairwise_iff_getElem]
  intro i j hi hj hij
  have h1 := h i j (Nat.zero_le _) hij hj
  rw [lt_cmpK] at h1
  have e : ∀ k (hk : k < l.length), l.toArray[k]! = l[k] := fun k hk => by rw [getElem!_pos _ _ (by simpa using hk)]; simp
  rw [e i hi, e j hj] at h1
  rw [h1]
  simp
def SrtB (l : List Bsk) (n : Nat) (v : Value) (w0 : World) (w' : World) : Prop := ∃ ss, ss.Perm l ∧ AscB ss ∧ RowE encB w' v ss ∧ ss.length = n ∧ Below w0.heap.size w0 w'
theorem sortB_any (l : List Bsk) (v : Value) (w0 w : World) (hv : OwnE encB w w0.heap.size 55 v l) (hB : Below w0.heap.size w0 w) (hf : l.length ≤ 1000000) :
    Calls Try.prog 68 #[v, .func (.func 69) #[] #[]] w fun e w' => e = .returned (.tuple #[]) ∧ SrtB l l.length v w0 w' := by
  have hrow := hv.row
  rcases hv.2 with ⟨rfl, h0⟩ | ⟨g, cap, cur, rfl, hb, hg, hc1, hc2, _⟩
  · have : l = [] := List.length_eq_zero_iff.1 h0
    subst this
    have hcon := AnyF.slices_SortFunc_none Try.sortBsk none 0 (.func (.func 69) #[] #[]) w
    exact hcon.mono fun e w' ⟨h1, h2⟩ => ⟨h1, [], List.Perm.nil, List.Pairwise.nil, by rw [h2]; exact hrow, rfl, by rw [h2]; exact hB⟩
  · have hgw : g < w.heap.size := (Array.getElem?_eq_some_iff.1 hg).1
    have eg : ∀ args w, (callFunc 69 args).run Try.prog w = .ok (.enter 69 args) w := enters_of Try.func69 (by kernel_rfl) rfl
    have hH := OwnE.holds (by decide) hv
    have hcon := AnyQ.slices_SortFunc Try.sortBsk 4 Try.isAgg55 Try.sizeOf55 encB.cs (fun _ => rfl) encB.one cmpK swo_cmpK 69 #[] g 0 cap l.toArray w eg (io1_lays _ _ _ _) hH hgw (by simp; omega)
    refine (show Calls Try.prog 68 _ _ _ from hcon).mono ?_
    rintro e w' ⟨h1, d', n, os, hp, hs, rfl⟩
    obtain ⟨ss⟩ := d'
    have hz : ss.length = l.length := by simpa using hp.1
    have hperm : ss.Perm l := by
      have h3 := hp.2.2
      simp only [List.size_toArray, List.extract_toArray, List.extract_eq_take_drop, Nat.sub_zero, List.drop_zero, List.take_length] at h3
      rwa [List.take_of_length_le (by omega)] at h3
    refine ⟨h1, ss, hperm, sorted_ascB (by rw [hz]; simpa using hs), ?_, hz, below_sortE (C := encB) hB hb⟩
    rw [← hz]
    exact holds_rowE (C := encB) (by decide) (holds_sortE (C := encB) hH hz hgw) (by omega) hc2
set_option maxRecDepth 20000 in
set_option maxHeartbeats 2000000 in
theorem inOrder_any (v : Value) (l : List Bsk) (w : World) (hr : RowE encB w v l) (hf : l.length ≤ 1000000) : Calls Try.prog 38 #[v] w fun e w' => ∃ u, e = .returned u ∧ SrtB l l.length u w w' := by
  have HC := hid (cloneB_any v l w hr hf)
  have HF := hid hf
  clear hr hf
  go_enter Try.func38, Try.ntmps38
  go_wp2_with fail
  refine HC.out.mono ?_
  rintro e w1 ⟨u, rfl, hu, hb1⟩
  have HSO := hid (sortB_any l u w w1 hu hb1 HF.out)
  obtain ⟨ua, uc, rfl⟩ := hu.shape
  clear hu hb1 HC
  go_wp2_with fail
  refine HSO.out.mono ?_
  rintro e w2 ⟨rfl, hs⟩
  have HS := hid hs
  clear hs HSO
  go_wp2
  go_ret
  exact ⟨_, rfl, HS.out⟩
instance : DecidableEq Bsk := fun x y =>
  if h : x.nu = y.nu ∧ x.ca = y.ca ∧ x.pr = y.pr ∧ x.cn = y.cn then isTrue (bsk_ext h.1 h.2.1 h.2.2.1 h.2.2.2) else isFalse (fun e => h (by subst e; exact ⟨rfl, rfl, rfl, rfl⟩))
theorem bytesB_ne {a b : ByteArray} (h : ¬ a = b) : ¬ a.toList = b.toList := by
  intro e
  rw [ByteArray.toList_eq, ByteArray.toList_eq] at e
  exact h (ByteArray.ext (Array.toList_inj.1 e))
set_option maxRecDepth 100000 in
theorem eqB (x y : Bsk) (w : World) : (Op.equalIn 10000 55 (bskV x) (bskV y)).run Try.prog w = .ok (decide (x = y)) w := by
  obtain ⟨a, b, c, d⟩ := x
  obtain ⟨a', b', c', d'⟩ := y
  dsimp only [bskV]
  have u3 := Try.underlying3
  have a3 := Try.isAgg3
  have z3 := Try.sizeOf3
  have u9 := Try.underlying9
  have a9 := Try.isAgg9
  have z9 := Try.sizeOf9
  rw [show (10000 : Nat) = 9999 + 1 from rfl, run_equalIn_struct w 9999 55 _ _ (by kernel_rfl) (by kernel_rfl)]
  simp only [Program.fieldsOf, Try.underlying55]
  go_simp
  by_cases h1 : a = a'
  case neg => simp [h1]
  by_cases h2 : b = b'
  case neg => simp [h1, h2]
  by_cases h3 : c = c'
  case neg => simp [h1, h2, h3, bytesB_ne h3]
  by_cases h4 : d = d' <;> simp [h1, h2, h3, h4]
theorem neqB (x y : Bsk) (w : World) : (binOp .neq 55 (bskV x) (bskV y)).run Try.prog w = .ok (.bool (!decide (x = y))) w := by
  rw [run_neq_struct, eqB]
  rfl
theorem same_bsk {l m : List Bsk} (hn : l.length = m.length) (h : ∀ j (h1 : j < l.length) (h2 : j < m.length), l[j] = m[j]) : l = m := List.ext_getElem hn h
set_option maxRecDepth 20000 in
set_option maxHeartbeats 2000000 in
theorem equalB_any (u v : Value) (l m : List Bsk) (w : World) (hu : RowE encB w u l) (hv : RowE encB w v m) : Calls Try.prog 43 #[u, v] w fun e w' => e = .returned (.bool (decide (l = m))) ∧ Below w.heap.size w w' := by
  have HU := hid (fun w1 (g : Below w.heap.size w w1) => hu.keep g)
  have HV := hid (fun w1 (g : Below w.heap.size w w1) => hv.keep g)
  have h1 := hu.most
  have h2 := hv.most
  unfold maxLen at h1 h2
  obtain ⟨ua, uc, rfl⟩ := hu.shape
  obtain ⟨va, vc, rfl⟩ := hv.shape
  obtain ⟨n, hn⟩ : ∃ n, n = l.length := ⟨_, rfl⟩
  obtain ⟨q, hq⟩ : ∃ n, n = m.length := ⟨_, rfl⟩
  have HN := hid hn
  have HQ := hid hq
  rw [← hn] at h1 HU ⊢
  rw [← hq] at h2 HV ⊢
  clear hu hv hn hq
  by_cases hnq : n = q
  case neg =>
    have hnq' : ((n : Int) != (q : Int)) = true := by simp; omega
    have hnq2 : (n != q) = true := by simpa using hnq
    have HE := hid (show decide (l = m) = false from decide_eq_false fun h => hnq (by rw [HN.out, HQ.out, h]))
    clear hnq
    go_enter Try.func43, Try.ntmps43
    go_wp2
    go_ret
    exact ⟨ret_bool HE.out.symm, Below.refl _ _⟩
  subst hnq
  go_enter Try.func43, Try.ntmps43
  go_wp2
  go_loopw [13] (fun t wr => ∃ k : Nat, k ≤ n ∧ t = .int .i64 (k : Int) ∧ Hid (∀ j (h1 : j < l.length) (h2 : j < m.length), j < k → l[j] = m[j]) ∧ Hid (Below w.heap.size w wr)) (fun t _ => n - (intOf t).toNat)
  case atStart => exact ⟨0, Nat.zero_le _, rfl, fun j _ _ h => absurd h (Nat.not_lt_zero j), Below.refl _ _⟩
  case round =>
    obtain ⟨k, hk, rfl, hok, hB⟩ := hrel
    by_cases hlt : k < n
    · have hlt' : (k : Int) < n := by omega
      have k1 : k < l.length := by rw [← HN.out]; exact hlt
      have k2 : k < m.length := by rw [← HQ.out]; exact hlt
      obtain ⟨b, o, hua, c0, c1, c2, c3⟩ := (HU.out _ hB.out).bsk k1
      obtain ⟨b2, o2, hva, d0, d1, d2, d3⟩ := (HV.out _ hB.out).bsk k2
      subst hua hva
      have hne := neqB l[k] m[k]
      have HST := hid (fun (h : l[k] = m[k]) => show ∀ j (h1 : j < l.length) (h2 : j < m.length), j < k + 1 → l[j] = m[j] from fun j g1 g2 g3 => by
        rcases Nat.lt_succ_iff_lt_or_eq.1 g3 with g | rfl
        · exact hok.out j g1 g2 g
        · exact h)
      have HBAD := hid (fun (h : l[k] ≠ m[k]) => show decide (l = m) = false from decide_eq_false fun g => h (by subst g; rfl))
      generalize l[k] = x at *
      generalize m[k] = y at *
      have HLT := hid hlt
      clear hlt k1 k2
      by_cases hxy : x = y
      · have HE := hid (HST.out hxy)
        rw [decide_eq_true hxy] at hne
        simp only [Bool.not_true] at hne
        clear hxy
        go_wp2
        go_quiet (fail)
        have HB2 := hid (bdrewN (n := nq) hB.out)
        go_wp2
        go_roundw
        case rel => exact ⟨k + 1, HLT.out, by go_num, HE, HB2⟩
        case measure => have := HLT.out; simp [intOf]; omega
      · have HE := hid (HBAD.out hxy)
        rw [decide_eq_false hxy] at hne
        simp only [Bool.not_false] at hne
        clear hxy
        go_wp2
        go_quiet (fail)
        have HB2 := hid (bdrewN (n := nq) hB.out)
        go_wp2
        go_ret
        exact ⟨ret_bool HE.out.symm, HB2.out⟩
    · obtain rfl : k = n := by omega
      have HE := hid (show decide (l = m) = true from decide_eq_true (same_bsk (by rw [← HN.out, ← HQ.out]) fun j g1 g2 => hok.out j g1 g2 (by rw [HN.out]; exact g1)))
      go_wp2
      go_ret
      exact ⟨ret_bool HE.out.symm, hB.out⟩
set_option maxRecDepth 20000 in
set_option maxHeartbeats 4000000 in
theorem valid_any (v : Value) (l : List Bsk) (w : World) (hr : RowE encB w v l) (hs : ∀ b ∈ l, b.pr.size ≤ maxLen) : Calls Try.prog 13 #[v] w fun e w' => e = .returned (.bool (bskQ l)) ∧ Below w.heap.size w w' := by
  have hm := hr.most
  unfold maxLen at hm
  obtain ⟨va, vc, rfl⟩ := hr.shape
  by_cases h5 : l.length ≤ 500
  case neg =>
    have HE := hid (show bskQ l = false by unfold bskQ; rw [decide_eq_false h5]; rfl)
    have hd : decide ((l.length : Int) ≤ 500) = false := decide_eq_false (by omega)
    clear hr h5
    go_enter Try.func13, Try.ntmps13
    go_wp2
    go_ret
    exact ⟨ret_bool HE.out.symm, Below.refl _ _⟩
  have hd : decide ((l.length : Int) ≤ 500) = true := decide_eq_true (by omega)
  have HK := hid (fun w1 (g : Below w.heap.size w w1) => hr.keep g)
  have H5 := hid h5
  have HC := hid (contains_any _ l w hr hs)
  have HQ : Hid (bskQ l = (l.all oneQ && dstQ l && ascQ l)) := by unfold Hid bskQ; rw [decide_eq_true h5]; simp
  clear hr h5
  cases h1 : l.all oneQ
  · rw [h1] at HC
    have HE := hid (show bskQ l = false by rw [HQ.out, h1]; rfl)
    clear h1
    go_enter Try.func13, Try.ntmps13
    go_wp2_with fail
    refine HC.out.mono ?_
    rintro e w1 ⟨rfl, hb⟩
    have HB := hid hb
    clear hb HC
    go_wp2_with fail
    go_ret
    exact ⟨ret_bool HE.out.symm, HB.out⟩
  rw [h1] at HC
  have HA := hid (fun x hx => (oneQ_iff.1 (List.all_eq_true.1 h1 x hx)).1)
  have HD := hid (fun w1 (g : Below w.heap.size w w1) => distinct_any _ l w1 (HK.out w1 g) HA.out (by have := H5.out; omega))
  cases h2 : dstQ l
  · rw [h2] at HD
    have HE := hid (show bskQ l = false by rw [HQ.out, h1, h2]; rfl)
    clear h1 h2
    go_enter Try.func13, Try.ntmps13
    go_wp2_with fail
    refine HC.out.mono ?_
    rintro e w1 ⟨rfl, hb⟩
    have HB := hid hb
    clear hb HC
    go_wp2_with fail
    refine (HD.out _ HB.out).mono ?_
    rintro e w2 ⟨rfl, hb⟩
    have HB2 := hid (bstep HB.out HB.out.size hb)
    clear hb HD
    go_wp2_with fail
    go_ret
    exact ⟨ret_bool HE.out.symm, HB2.out⟩
  rw [h2] at HD
  have HP := hid (of_decide_eq_true h2)
  have HE := hid (show bskQ l = ascQ l by rw [HQ.out, h1, h2]; rfl)
  clear h1 h2
  go_enter Try.func13, Try.ntmps13
  go_wp2_with fail
  refine HC.out.mono ?_
  rintro e w1 ⟨rfl, hb⟩
  have HB := hid hb
  clear hb HC
  go_wp2_with fail
  refine (HD.out _ HB.out).mono ?_
  rintro e w2 ⟨rfl, hb⟩
  have HB2 := hid (bstep HB.out HB.out.size hb)
  clear hb HD
  have HO := hid (inOrder_any _ l w2 (HK.out _ HB2.out) (by have := H5.out; omega))
  go_wp2_with fail
  refine HO.out.mono ?_
  rintro e w3 ⟨u, rfl, ss, hp, ha, hrow, hlen, hb3⟩
  have HB3 := hid (bstep HB2.out HB2.out.size hb3)
  have HEQ := hid (equalB_any _ _ l ss w3 (HK.out _ HB3.out) hrow)
  have HF : Hid (decide (l = ss) = ascQ l) := by
    have h := ascQ_sorted HP.out hp ha
    show decide (l = ss) = ascQ l
    rw [Bool.eq_iff_iff, decide_eq_true_iff]
    exact h
  obtain ⟨ua, uc, rfl⟩ := hrow.shape
  clear hp ha hrow hlen hb3 HO
  go_wp2_with fail
  refine HEQ.out.mono ?_
  rintro e w4 ⟨rfl, hb⟩
  rw [HF.out]
  have HB4 := hid (bstep HB3.out HB3.out.size hb)
  clear hb HEQ
  go_wp2_with fail
  go_ret
  exact ⟨ret_bool HE.out.symm, HB4.out⟩
end Go.Proofs.Ytikjgbfbbkmmcaa
