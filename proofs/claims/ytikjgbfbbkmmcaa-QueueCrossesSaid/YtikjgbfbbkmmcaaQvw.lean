/- Walk of the iterator of starts: contract. -/
import Derived.Test.YtikjgbfbbkmmcaaQvu
namespace Go.Proofs.Ytikjgbfbbkmmcaa
open Go.RowKit Go.Shelf Rt
attribute [local go_sem] Oper.semAt_some

set_option maxRecDepth 20000 in
set_option maxHeartbeats 8000000 in
theorem served_run (l0 : Nat) (v : Value) (l : List Bsk) (m : Nat) (p : Int) (w0 : World) (mb lb qb n0 x0 y0 B : Nat) (I Ix : List Sst → World → Prop) (hS : SvOk l m p) (hr : RowE encB w0 v l) (hne : (mb ≠ x0 ∧ mb ≠ y0) ∧ (lb ≠ x0 ∧ lb ≠ y0) ∧ (qb ≠ x0 ∧ qb ≠ y0) ∧ w0.heap.size ≤ x0 ∧ w0.heap.size ≤ y0)
    (hA : AbG2 TV B I) (hY : ∀ k y W1, (fcL (caQ l) m p l.length)[k]? = some y → I ((fcL (caQ l) m p l.length).take k) W1 → YieldAt Fence.wide 8 Try.prog l0 (encY y) W1 fun e W' =>
      (e = .returned (.bool true) ∧ I ((fcL (caQ l) m p l.length).take (k + 1)) W' ∧ KpV n0 x0 y0 W1 W') ∨ (e = .returned (.bool false) ∧ Ix ((fcL (caQ l) m p l.length).take (k + 1)) W'))
    (W : World) (hI : ItV v m p w0 mb lb qb n0 W) (hB : B ≤ W.heap.size) (h0 : I [] W) :
    CallsIn Fence.wide 9 Try.prog 78 #[.func (.yield l0) #[] #[], .pointer (some ⟨mb, 0, none⟩), .pointer (some ⟨lb, 0, none⟩), .pointer (some ⟨qb, 0, none⟩)] W fun e W' => (∃ v, e = .returned v) ∧ (I (fcL (caQ l) m p l.length) W' ∨ ∃ k, Ix ((fcL (caQ l) m p l.length).take k) W') := by
  have HI := hid hI; have HY := hid hY; have HA := hid hA; have H0 := hid h0; have HS := hid hS
  have HR := hid (fun (W1 : World) (g : ∀ j, j < w0.heap.size → W1.heap[j]? = w0.heap[j]?) => hr.lows g)
  have hm := hr.most
  unfold maxLen at hm
  obtain ⟨va, vc, rfl⟩ := hr.shape
  obtain ⟨n, hn⟩ : ∃ n, n = l.length := ⟨_, rfl⟩
  have HN := hid hn
  rw [← hn] at hm HY HR HI ⊢
  have HPO := hid (poolOf_any m W hS.m12)
  have hn0 := hI.le
  obtain ⟨pb, hpb⟩ : ∃ pb, pb = W.heap.size := ⟨_, rfl⟩
  have HPB := hid hpb
  rw [← hpb] at HPO
  have i0 := cell_of_row _ _ 0 _ _ _ hI.mbx
  simp only [List.getElem?_toArray, List.getElem?_cons_zero] at i0
  clear hI hY hA h0 hS hr hn hpb
  refine callsIn_of_wp Try.func78 rfl trivial ?_ rfl
  simp only [Try.ntmps78, List.size_toArray, List.length_cons, List.length_nil, Nat.reduceAdd, Nat.reduceSub, Array.replicate_succ, Array.replicate_zero, List.push_toArray, List.append_toArray, List.nil_append, List.cons_append]
  gi_wp2
  refine ⟨trivial, ?_⟩
  refine (callsIn_wide.2 HPO.out).mono ?_
  rintro e W1 ⟨rfl, hp1, hb1⟩
  have HI1 : Hid (ItV (.slice va n vc) m p w0 mb lb qb n0 W1) := HI.out.past hb1.size (fun j hj => hb1.block j (by rw [HPB.out]; omega))
  have HST : Hid (HpAt pb (pb + 1) (pzl (fcF (caQ l) m p 0)) W1 ∧ I [] W1) := ⟨hp1, HA.out _ _ _ none H0.out ⟨hb1.os, hb1.tape, hb1.output, hb1.size, fun j hj _ => hb1.block j (by rw [HPB.out]; exact hj)⟩ (fun j e => by cases e)⟩
  have i1 := cell_of_row _ _ 0 _ _ _ HI1.out.lbx
  simp only [List.getElem?_toArray, List.getElem?_cons_zero] at i1
  have hBp : B ≤ pb := by rw [HPB.out]; exact hB
  have hnp : n0 ≤ pb := by rw [HPB.out]; exact hn0
  clear hp1 hb1 HPO i0 HI H0 hB hn0
  clear HPB
  gi_wp2
  gi_loopw [14] (fun s wr => ∃ k : Nat, k ≤ n ∧ s = .int .i64 (k : Int) ∧ Hid (ItV (.slice va n vc) m p w0 mb lb qb n0 wr ∧ HpAt pb (pb + 1) (pzl (fcF (caQ l) m p k)) wr ∧ I ((fcL (caQ l) m p n).take k) wr)) (fun s _ => n - (intOf s).toNat)
  case atStart => exact ⟨0, Nat.zero_le _, rfl, HI1.out, HST.out.1, HST.out.2⟩
  case round =>
    clear HI1 HST i1
    obtain ⟨k, hk, rfl, hR⟩ := hrel
    by_cases hlt : k < n
    · have hlt' : (k : Int) < n := by omega
      have hks : k < l.length := by rw [← HN.out]; exact hlt
      obtain ⟨b0, o0, hva, c0, c1, c2, c3⟩ := (HR.out _ hR.out.1.low).bsk hks
      subst hva
      have HGT := hid (fcL_get (caQ l) m p (n := n) (k := k) hlt)
      have HFS := hid (fcF_succ (caQ l) m p k)
      have HFR := hid (HS.out.far hks)
      have HTK := hid (fun W1 (h : HpAt pb (pb + 1) (pzl (fcF (caQ l) m p k)) W1) => take_any pb (pb + 1) (fcF (caQ l) m p k) W1 h (HS.out.ne k) (by rw [fcF_len]; have := HS.out.m12; omega))
      have HRL := hid (rest_len (HS.out.ne k))
      have HRP := hid (fun y => rest_put (HS.out.ne k) y)
      have HFL := hid (fcF_len (caQ l) m p k)
      rw [← caQ_at hks] at c1
      have HTT := hid (show max (caQ l k) ((fcF (caQ l) m p k).getD (argM (fcF (caQ l) m p k)) 0) = fcT (caQ l) m p k from rfl)
      have HFK := hid (show fcK (caQ l) m p k = ⟨k, (argM (fcF (caQ l) m p k) : Nat), fcT (caQ l) m p k⟩ from rfl)
      have HVV := hid (show fcV (caQ l) m p k = argM (fcF (caQ l) m p k) from rfl)
      rw [HVV.out] at HFS
      rw [HFK.out] at HGT
      obtain ⟨F, hF⟩ : ∃ F, F = fcF (caQ l) m p k := ⟨_, rfl⟩
      rw [← hF] at HFS HTK HRL HRP HFL HTT HGT
      obtain ⟨T, hT⟩ : ∃ T, T = fcT (caQ l) m p k := ⟨_, rfl⟩
      rw [← hT] at HFS HFR HTT HGT
      generalize caQ l k = C at c1 HTT
      generalize l[k].nu = nu at c0
      generalize l[k].pr = pr at c2
      generalize l[k].cn = cn at c3
      have HLT := hid hlt
      have HRI := hid (And.intro hR.out.1 (And.intro (show HpAt pb (pb + 1) (pzl F) wr by rw [hF]; exact hR.out.2.1) hR.out.2.2))
      clear hlt hks hF hT HFK HVV hR
      gi_wp2_with (refine wpListIn_store_whole rfl 55 _ _ rfl wr.heap.size (bskC ⟨nu, C, pr, cn⟩) rfl rfl 55 _ (heap_alloc_new wr _) (infoBskA ⟨nu, C, pr, cn⟩) (by rfl) (bskC_one ⟨nu, C, pr, cn⟩) ?_; generalize hW : World.setRow _ _ _ = W2; have HB2 := hid (laidQ hW); clear hW)
      refine ⟨trivial, ?_⟩
      refine (callsIn_wide.2 (HTK.out W2 (HRI.out.2.1.keep HB2.out.2.1))).mono ?_
      rintro e W3 ⟨rfl, hp3, ht3⟩
      have HT3 := hid ((Tn.lay (T := TV) (B := pb) HB2.out.2.1).trans ht3)
      have HBB : Hid (W3.heap[wr.heap.size]? = some (.cells (bskC ⟨nu, C, pr, cn⟩) 55 (0, 0))) := ht3.other HB2.out.1 (by rintro (h | h) <;> exact absurd h (by decide))
      have HP3 := hid hp3
      obtain ⟨vn, hvn⟩ : ∃ vn, vn = argM F := ⟨_, rfl⟩
      rw [← hvn] at HFS HRP HTT HGT ⊢
      generalize F.getD vn 0 = fr at HTT ⊢
      have HVN := hid hvn
      have tt := HTT.out
      clear hp3 ht3 HB2 c0 c1 c2 c3 hvn
      gi_wp2_with (refine wpListIn_store_whole rfl 99 _ _ rfl W3.heap.size (vesC (vn : Nat) fr) rfl rfl 99 _ (heap_alloc_new W3 _) (infoVesA (vn : Nat) fr) (by rfl) (vesC_one (vn : Nat) fr) ?_; generalize hW : World.setRow _ _ _ = W4; have HB4 := hid (laidQ hW); clear hW; have HBB4 := hid ((HB4.out.2.1.block _ (Array.getElem?_eq_some_iff.1 HBB.out).1).trans HBB.out); have k1 := cell_of_row _ _ 1 _ _ _ HBB4.out; have v0 := cell_of_row _ _ 0 _ _ _ HB4.out.1; have v1 := cell_of_row _ _ 1 _ _ _ HB4.out.1; simp only [bskC, vesC, List.getElem?_toArray, List.getElem?_cons_zero, List.getElem?_cons_succ] at k1 v0 v1; have HT4 := hid (HT3.out.trans (Tn.lay HB4.out.2.1)); obtain ⟨fn, tmps, assign, body, hy, hRR⟩ := HY.out k _ W4 HGT.out ((HT4.out.mono hBp).ab HA.out HRI.out.2.2); simp only [encY, sstC] at hy; have HRY := hid hRR; clear hRR)
      refine HRY.out.mono ?_
      rintro e W6 (⟨rfl, hJ6, hk6⟩ | ⟨rfl, hJx6⟩)
      · have HP6 : Hid (HpAt pb (pb + 1) (rest F) W6) := (HP3.out.keep HB4.out.2.1).kp hk6
        have HI6 : Hid (ItV (.slice (some ⟨b0, o0, none⟩) n vc) m p w0 mb lb qb n0 W6) := (HRI.out.1.tn HT4.out hnp).kp hk6 hne
        have HV6 : Hid (W6.heap[W3.heap.size]? = some (.cells (vesC (vn : Nat) fr) 99 (0, 0))) := hk6.own _ _ _ (.inr rfl) HB4.out.1
        have HJ6 := hid hJ6
        have v0 := cell_of_row _ _ 0 _ _ _ HV6.out
        have p0 := cell_of_row _ _ 0 _ _ _ HI6.out.qbx
        simp only [vesC, List.getElem?_toArray, List.getElem?_cons_zero] at v0 p0
        have HPU := hid (put_any pb (pb + 1) (rest F) ⟨vn, T + p⟩ W6 HP6.out (by have := HRL.out; have := HFL.out; have := HS.out.m12; omega))
        have hfr := HFR.out
        have hp1 := HS.out.p1
        have hp2 := HS.out.p2
        clear hJ6 hk6 hy HRY HB4 HBB4 HBB HP3 HT3 k1 tt
        gi_wp2
        refine ⟨trivial, ?_⟩
        refine (callsIn_wide.2 HPU.out).mono ?_
        rintro e W7 ⟨rfl, hp7, ht7⟩
        have HN7 : Hid (ItV (.slice (some ⟨b0, o0, none⟩) n vc) m p w0 mb lb qb n0 W7 ∧ HpAt pb (pb + 1) (pzl (fcF (caQ l) m p (k + 1))) W7 ∧ I ((fcL (caQ l) m p n).take (k + 1)) W7) :=
          ⟨HI6.out.tn ht7 hnp, hp7.perm (by rw [HFS.out]; exact HRP.out _), (ht7.mono hBp).ab HA.out HJ6.out⟩
        clear hp7 ht7 HPU v0 p0 hfr hp1 hp2
        gi_wp2
        go_roundw
        case rel => exact ⟨k + 1, HLT.out, by go_num, HN7⟩
        case measure => have := HLT.out; simp [intOf]; omega
      · have HX6 := hid hJx6
        clear hJx6
        gi_wp2
        refine bodyPost_ret (results_none rfl _ _ _) rfl ?_
        exact ⟨⟨_, rfl⟩, .inr ⟨k + 1, HX6.out⟩⟩
    · obtain rfl : k = n := by omega
      have HE : Hid (I (fcL (caQ l) m p k) wr) := by have h := hR.out.2.2; rwa [List.take_of_length_le (by rw [fcL_len]; exact Nat.le_refl _)] at h
      gi_wp2
      go_end0
      exact ⟨⟨_, rfl⟩, .inl HE.out⟩
end Go.Proofs.Ytikjgbfbbkmmcaa
