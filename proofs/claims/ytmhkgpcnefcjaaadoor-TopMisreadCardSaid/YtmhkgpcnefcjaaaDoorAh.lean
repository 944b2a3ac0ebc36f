/- Walks of Distance of both, of the reference's distances, Nearest, Doubtful, Only: contracts. -/
import Derived.Test.YtmhkgpcnefcjaaaDoorAg
namespace Go.Proofs.YtmhkgpcnefcjaaaDoor
open Go.RowKit

/-- What Distance answers. -/
def dstI (a b : ByteArray) : Int := if nineB a = true ∧ nineB b = true then dist9 (vals a) (vals b) else 0
def dstC (a b : ByteArray) : Int := if nineB a = true ∧ nineB b = true then 0 else 2
def DstP (a b : ByteArray) (w : World) (e : Ending) (w' : World) : Prop := e = .returned (.tuple #[.int .i64 (dstI a b), .int .i64 (dstC a b)]) ∧ Below w.heap.size w w'
theorem dst_ok {a b : ByteArray} (ha : nineB a = true) (hb : nineB b = true) : dstI a b = dist9 (vals a) (vals b) ∧ dstC a b = 0 := by
  unfold dstI dstC
  rw [if_pos ⟨ha, hb⟩, if_pos ⟨ha, hb⟩]
  exact ⟨rfl, rfl⟩
theorem dst_no {a b : ByteArray} (h : nineB a = false ∨ nineB b = false) : dstI a b = 0 ∧ dstC a b = 2 := by
  unfold dstI dstC
  have : ¬ (nineB a = true ∧ nineB b = true) := by
    rintro ⟨h1, h2⟩
    rcases h with h | h
    · rw [h1] at h; cases h
    · rw [h2] at h; cases h
  rw [if_neg this, if_neg this]
  exact ⟨rfl, rfl⟩
theorem xnine_at (s : ByteArray) (w : World) : Calls Tryd.prog 38 #[.string s] w fun e w' => e = .returned (.bool (nineB s)) ∧ w = w' :=
  (xnine_any s w).mono fun _ _ h => ⟨h.1, h.2.symm⟩
set_option maxRecDepth 100000 in
set_option maxHeartbeats 4000000 in
theorem xdst_any (s t : ByteArray) (w : World) : Calls Tryd.prog 9 #[.string s, .string t] w (DstP s t w) := by
  unfold DstP
  cases hs : nineB s
  · have HS := hid hs
    have HE := hid (dst_no (b := t) (.inl hs))
    clear hs
    go_enter Tryd.func9, Tryd.ntmps9
    go_wp2_with (go_at_call 38; refine (xnine_at s _).mono ?_; rintro e w' ⟨rfl, rfl⟩; rw [HS.out])
    go_ret2
    exact ⟨by rw [HE.out.1, HE.out.2]; rfl, Below.refl _ _⟩
  cases ht : nineB t
  · obtain ⟨A, hA⟩ : ∃ A : ByteArray → Bool, ∀ u, nineB u = A u := ⟨nineB, fun _ => rfl⟩
    have HA := hid hA
    have HE := hid (dst_no (a := s) (.inr ht))
    rw [hA] at hs ht
    clear hA
    go_enter Tryd.func9, Tryd.ntmps9
    go_wp2_with (go_at_call 38; refine (xnine_at _ _).mono ?_; rintro e w' ⟨rfl, rfl⟩; rw [HA.out])
    go_ret2
    exact ⟨by rw [HE.out.1, HE.out.2]; rfl, Below.refl _ _⟩
  have HE := hid (dst_ok hs ht)
  have HS := hid hs
  have HT := hid ht
  have HN := hid (fun u (h : u = s ∨ u = t) W => show Calls Tryd.prog 38 #[.string u] W fun e w' => e = .returned (.bool true) ∧ W = w' by
    rcases h with rfl | rfl
    · have := xnine_at u W; rw [hs] at this; exact this
    · have := xnine_at u W; rw [ht] at this; exact this)
  have hss := (nineB_iff.1 hs).1
  have hts := (nineB_iff.1 ht).1
  have HSS := hid hss
  have HTS := hid hts
  clear hs ht hss hts
  go_enter Tryd.func9, Tryd.ntmps9
  go_wp2_with (go_at_call 38; refine (HN.out _ (by first | exact .inl rfl | exact .inr rfl) _).mono ?_; rintro e w' ⟨rfl, rfl⟩)
  go_loopw [6, 7] (fun n t' wr => ∃ k : Nat, k ≤ 9 ∧ n = .int .i64 (difN (vals s) (vals t) k) ∧ t' = .int .i64 (k : Int) ∧ Hid (Below w.heap.size w wr)) (fun _ t _ => 9 - (intOf t).toNat)
  case atStart => exact ⟨0, by omega, rfl, rfl, Below.refl _ _⟩
  case round =>
    obtain ⟨k, hk, rfl, rfl, hB⟩ := hrel
    by_cases hlt : k < 9
    · have hlt' : (k : Int) < 9 := by omega
      have hks : k < s.size := by rw [HSS.out]; exact hlt
      have hkt : k < t.size := by rw [HTS.out]; exact hlt
      have r1 := fun W => str_run s k hks W
      have r2 := fun W => str_run t k hkt W
      have o1 : (vals s)[k]? = some (valB (s[k]'hks)) := (vals_opt9 HS.out hlt).2
      have o2 : (vals t)[k]? = some (valB (t[k]'hkt)) := (vals_opt9 HT.out hlt).2
      have q1 := nine_at HS.out k hks
      have q2 := nine_at HT.out k hkt
      have HY := hid (fun h => difN_yes (l := vals s) (m := vals t) (k := k) h)
      have HO := hid (fun h => difN_no (l := vals s) (m := vals t) (k := k) h)
      have hbd := difN_bd (vals s) (vals t) k
      have HLT := hid hlt
      rw [o1, o2] at HY HO
      generalize difN (vals s) (vals t) k = D at *
      clear hlt o1 o2
      generalize s[k]'hks = c0 at *
      generalize t[k]'hkt = c1 at *
      clear hks hkt
      by_cases he : c0 = c1
      · subst he
        have hD := hid (HY.out rfl)
        have hne : ((c0.toNat : Int) != (c0.toNat : Int)) = false := by simp
        clear q1 q2 HY HO
        go_wp2_with fail
        go_quiet (fail)
        have HB2 := hid (bdrewN (n := nq) hB.out)
        go_wp2_with fail
        go_roundw
        case rel => exact ⟨k + 1, HLT.out, by rw [hD.out], by go_num, HB2⟩
        case measure => have := HLT.out; simp [intOf]; omega
      · have hv : ¬ some (valB c0) = some (valB c1) := fun g => he ((byte_val q1 q2).2 (Option.some.inj g))
        have hD := hid (HO.out hv)
        have hne : ((c0.toNat : Int) != (c1.toNat : Int)) = true := by
          simp only [bne_iff_ne, ne_eq]
          intro g
          exact he (UInt8.toNat_inj.1 (by omega))
        have hD9 : D + 1 ≤ 10 := by omega
        clear q1 q2 HY HO hv he
        go_wp2_with fail
        go_quiet (fail)
        have HB2 := hid (bdrewN (n := nq) hB.out)
        go_wp2_with fail
        go_roundw
        case rel => exact ⟨k + 1, HLT.out, by rw [hD.out], by go_num, HB2⟩
        case measure => have := HLT.out; simp [intOf]; omega
    · obtain rfl : k = 9 := by omega
      go_wp2_with fail
      go_ret2
      exact ⟨by rw [HE.out.1, HE.out.2]; rfl, hB.out⟩
set_option maxRecDepth 100000 in
set_option maxHeartbeats 8000000 in
theorem cdst_any (s t : ByteArray) (w : World) : Calls Tryd.prog 8 #[.string s, .string t] w (DstP s t w) := by
  unfold DstP
  obtain ⟨A, hA⟩ : ∃ A, nineB s = A := ⟨_, rfl⟩
  obtain ⟨B, hB⟩ : ∃ B, nineB t = B := ⟨_, rfl⟩
  obtain ⟨l, hl, hVs, hlv⟩ : ∃ l : List Int, l.length = 9 ∧ (∀ W, Calls Tryd.prog 36 #[.string s] W fun e w' => e = .returned (.tuple #[.agg (cvs l), .bool A]) ∧ Below W.heap.size W w') ∧ (A = true → l = vals s) := by
    cases A
    · exact ⟨zero9, rfl, fun W => values_bad s W hA, fun h => by cases h⟩
    · exact ⟨vals s, (vals_is9 hA).1, fun W => values_ok s W hA, fun _ => rfl⟩
  obtain ⟨m, hm, hVt, hmv⟩ : ∃ m : List Int, m.length = 9 ∧ (∀ W, Calls Tryd.prog 36 #[.string t] W fun e w' => e = .returned (.tuple #[.agg (cvs m), .bool B]) ∧ Below W.heap.size W w') ∧ (B = true → m = vals t) := by
    cases B
    · exact ⟨zero9, rfl, fun W => values_bad t W hB, fun h => by cases h⟩
    · exact ⟨vals t, (vals_is9 hB).1, fun W => values_ok t W hB, fun _ => rfl⟩
  have HE := hid (show dstI s t = (if A = true ∧ B = true then dist9 l m else 0) ∧ dstC s t = (if A = true ∧ B = true then 0 else 2) by
    unfold dstI dstC
    rw [hA, hB]
    refine ⟨?_, rfl⟩
    by_cases g : A = true ∧ B = true
    · rw [if_pos g, if_pos g, hlv g.1, hmv g.2]
    · rw [if_neg g, if_neg g])
  have HVs := hid hVs
  have HVt := hid hVt
  have HD := hid (fun W => distance_any l m W hl hm)
  obtain ⟨a1, b1, c1, d1, e1, f1, g1, h1, i1, hl1⟩ := nine_list hl
  obtain ⟨a2, b2, c2, d2, e2, f2, g2, h2, i2, hl2⟩ := nine_list hm
  have hcl : cvs l = #[.int .i64 a1, .int .i64 b1, .int .i64 c1, .int .i64 d1, .int .i64 e1, .int .i64 f1, .int .i64 g1, .int .i64 h1, .int .i64 i1] := by rw [hl1]; rfl
  have hcm : cvs m = #[.int .i64 a2, .int .i64 b2, .int .i64 c2, .int .i64 d2, .int .i64 e2, .int .i64 f2, .int .i64 g2, .int .i64 h2, .int .i64 i2] := by rw [hl2]; rfl
  have HCL := hid hcl
  rw [hcl] at HVs HD
  rw [hcm] at HVt HD
  clear hA hB hl hm hVs hVt hlv hmv hl1 hl2
  go_enter Tryd.func8, Tryd.ntmps8
  go_wp2_with fail
  refine (HVs.out _).mono ?_
  rintro e w1 ⟨rfl, hb⟩
  have HX0 := vb_new w1 l
  have HX := hid (Vb.mk HX0.row (Nat.le_trans hb.size HX0.new) (bstep hb hb.size HX0.low) : Vb w _ w1.heap.size l)
  rw [hcl] at HX
  clear HX0 hb hcl
  go_wp2_with fail
  refine (HVt.out _).mono ?_
  rintro e w2 ⟨rfl, hb⟩
  have HX2 := HX.out.keep hb
  have HX3 := hid (HX2.keep ((Below.refl w2.heap.size w2).alloc (Nat.le_refl _) (.cells (cvs m) 66)))
  obtain ⟨q0, q1, q2, q3, q4, q5, q6, q7, q8⟩ := HX3.out.cellsM HCL.out
  rw [hcm] at HX3 q0 q1 q2 q3 q4 q5 q6 q7 q8
  clear HX2 hb hcm HX
  cases A
  · go_wp2_with fail
    go_ret2
    exact ⟨by rw [HE.out.1, HE.out.2]; simp, HX3.out.low⟩
  cases B
  · go_wp2_with fail
    go_ret2
    exact ⟨by rw [HE.out.1, HE.out.2]; simp, HX3.out.low⟩
  go_wp2_with fail
  refine (HD.out _).mono ?_
  rintro e w3 ⟨rfl, hb⟩
  have HX4 := hid (HX3.out.keep hb)
  clear hb q0 q1 q2 q3 q4 q5 q6 q7 q8
  go_wp2_with fail
  go_ret2
  exact ⟨by rw [HE.out.1, HE.out.2]; simp, HX4.out.low⟩
theorem rowI_cast {w : World} {v : Value} {l m : List Int} (h : RowI w v l) (e : l = m) : RowI w v m := e ▸ h
/-- What the reference's distances answers. -/
def xdC (s : ByteArray) (ls : List ByteArray) : Int := if okS s ls = true then 0 else 2
def xdO (s : ByteArray) (ls : List ByteArray) : List Int := if okS s ls = true then dsL s ls else []
theorem dsL_nine {s c : ByteArray} {ls : List ByteArray} {k : Nat} (hs : nineB s = true) (h : k < ls.length) (h' : k < (dsL s ls).length) (hc : ls[k] = c) (h9 : nineB c = true) : dstI s c = (dsL s ls)[k] ∧ dstC s c = 0 := by
  rw [dsL_at s ls h h', hc]
  exact dst_ok hs h9
set_option maxRecDepth 100000 in
set_option maxHeartbeats 4000000 in
theorem xdists_any (s : ByteArray) (v : Value) (ls : List ByteArray) (w : World) (hr : RowS w v ls) (hlen : ls.length ≤ 2100) : Calls Tryd.prog 50 #[.string s, v] w (DsP (xdO s ls) (xdC s ls) w) := by
  cases hs : nineB s
  · have HS := hid hs
    have HE := hid (show xdO s ls = [] ∧ xdC s ls = 2 by unfold xdO xdC okS; rw [hs]; exact ⟨rfl, rfl⟩)
    rw [HE.out.1, HE.out.2]
    clear hs hr
    go_enter Tryd.func50, Tryd.ntmps50
    go_wp2_with (go_at_call 38; refine (xnine_at s _).mono ?_; rintro e w' ⟨rfl, rfl⟩; rw [HS.out])
    go_ret2
    exact ⟨_, rfl, .inl ⟨_, _, rfl, rfl⟩, Below.refl _ _⟩
  obtain ⟨i0, hi, hz0, hz1, hz2⟩ := infoJ
  have HR := hid (fun w1 (g : Below w.heap.size w w1) => hr.keep g)
  have HS := hid hs
  obtain ⟨a, b, o, cap, rfl, ha, _, _⟩ := hr
  obtain ⟨n, hn⟩ : ∃ n, n = ls.length := ⟨_, rfl⟩
  have HN := hid hn
  have hDL := dsL_len s ls
  rw [← hn] at hlen HR hDL ⊢
  have HDL := hid hDL
  have HBAD := hid (fun (h : ls.all nineB = false) => show xdO s ls = [] ∧ xdC s ls = 2 by unfold xdO xdC okS; rw [hs, h]; exact ⟨rfl, rfl⟩)
  have HOK := hid (fun (h : ls.all nineB = true) => show xdO s ls = dsL s ls ∧ xdC s ls = 0 by unfold xdO xdC okS; rw [hs, h]; exact ⟨rfl, rfl⟩)
  have HDN := hid (fun (k : Nat) (c : ByteArray) (h : k < ls.length) (hc : ls[k] = c) (h9 : nineB c = true) => dsL_nine hs h (by rw [HDL.out, HN.out]; exact h) hc h9)
  have HND := hid (fun c (h9 : nineB c = false) => dst_no (a := s) (.inr h9))
  generalize dsL s ls = ds at *
  clear hs hn ha hDL
  go_enter Tryd.func50, Tryd.ntmps50
  go_wp2_with (go_at_call 38; refine (xnine_at s _).mono ?_; rintro e w' ⟨rfl, rfl⟩; rw [HS.out])
  go_loopw [6, 7] (fun u t wr => ∃ k : Nat, k ≤ n ∧ t = .int .i64 (k : Int) ∧ Hid (OwnJ wr w.heap.size u (ds.take k)) ∧ Hid (∀ j (hj : j < ls.length), j < k → nineB ls[j] = true) ∧ Hid (Below w.heap.size w wr)) (fun _ t _ => n - (intOf t).toNat)
  case atStart => exact ⟨0, Nat.zero_le _, rfl, by rw [List.take_zero]; exact ownJ_nil _ _, fun j _ h => absurd h (Nat.not_lt_zero _), Below.refl _ _⟩
  case round =>
    obtain ⟨k, hk, rfl, hO, hok, hB⟩ := hrel
    by_cases hlt : k < n
    · have hlt' : (k : Int) < n := by omega
      have hkl : k < ls.length := by rw [← HN.out]; exact hlt
      have hkd : k < ds.length := by rw [HDL.out]; exact hlt
      obtain ⟨a', b', o', cap', hv, ha', _, hcell⟩ := HR.out _ hB.out
      injection hv with hv1 hv2 hv3
      subst hv1 hv3
      rcases ha' with h0 | rfl
      · rw [h0] at hkl; simp at hkl
      have c0 := hcell k hkl
      have HST := hid (fun h => all_step hkl h hok.out)
      have HAB := hid (fun h => all_bad hkl h)
      have HDK := hid (fun c hc h9 => HDN.out k c hkl hc h9)
      have HTK := hid (List.take_succ_eq_append_getElem hkd)
      have hln : (ds.take k).length = k := by rw [List.length_take]; omega
      have HLN := hid hln
      have HLT := hid hlt
      clear hcell hv2 hlt hln
      obtain ⟨c, hc⟩ : ∃ c, ls[k]'hkl = c := ⟨_, rfl⟩
      have HDC := hid (HDK.out c hc)
      rw [hc] at c0
      rw [hc] at HST HAB
      have HD := hid (fun W => xdst_any s c W)
      clear hc HDK
      generalize ds[k]'hkd = D at *
      cases f1 : nineB c
      · have HF := hid (HBAD.out (HAB.out f1))
        have HND2 := HND.out c f1
        unfold DstP at HD
        rw [HND2.1, HND2.2] at HD
        clear f1 HND2
        rw [HF.out.1, HF.out.2]
        go_wp2_with fail
        refine (HD.out _).mono ?_
        rintro e w2 ⟨rfl, hb⟩
        have HB2 := hid (bstep hB.out hB.out.size hb)
        clear hb
        go_wp2_with fail
        go_ret2
        exact ⟨_, rfl, .inl ⟨_, _, rfl, rfl⟩, HB2.out⟩
      · have HF := hid (HST.out f1)
        have HND2 := HDC.out f1
        unfold DstP at HD
        rw [HND2.1, HND2.2] at HD
        clear f1 HND2
        generalize ds.take k = L at *
        go_wp2_with fail
        refine (HD.out _).mono ?_
        rintro e w2 ⟨rfl, hb⟩
        have HB2 := hid (bstep hB.out hB.out.size hb)
        have HO2 := hid (hO.out.keep hb)
        clear hb
        go_wp2_with (at_builtin; refine wpList_append_own _ rfl _ _ 31 rfl w.heap.size 3 i0 (.int .i64 0) 1 8 Tryd.underlying31 hi hz0 hz1 hz2 rfl (by decide) _ _ _ rfl (World.ownsRow.alloc HO2.out _) ⟨w2.heap.size, 0, none⟩ 1 1 [.int .i64 D] rfl rfl (cellJ rfl) oneJ (by have := HLN.out; unfold maxLen; omega) (by have := HLN.out; omega) (by have := HB2.out.size; simp; omega) ?_; intro v1 w3 hown3 hgrow3 _; have HB3 := hid (belowJ HB2.out HO2.out (Nat.le_refl _) hgrow3); have HR3 := hid (OwnJ.app hown3); clear hown3 hgrow3)
        go_roundw
        case rel => exact ⟨k + 1, HLT.out, by go_num, by rw [HTK.out]; exact HR3, HF, HB3⟩
        case measure => have := HLT.out; simp [intOf]; omega
    · obtain rfl : k = n := by omega
      have hE := hid (HOK.out (all_end (ls := ls) fun j hj => hok.out j hj (by rw [HN.out]; exact hj)))
      have HTL := hid (show ds.take k = ds from List.take_of_length_le (by rw [HDL.out]; exact Nat.le_refl _))
      obtain ⟨xa, xc, hx⟩ := ownJ_shape hO.out
      subst hx
      go_wp2_with fail
      go_ret2
      refine ⟨_, by rw [hE.out.2]; rfl, ?_, hB.out⟩
      exact rowI_cast hO.out.rowI (HTL.out.trans hE.out.1.symm)
end Go.Proofs.YtmhkgpcnefcjaaaDoor
