/- Walk of the code's distances: contracts. -/
import Derived.Test.YtmhkgpcnefcjaaaDoorAe
namespace Go.Proofs.YtmhkgpcnefcjaaaDoor
open Go.RowKit

/-- What distances answers. -/
def DsP (L : List Int) (c : Int) (w : World) (e : Ending) (w' : World) : Prop := ∃ u, e = .returned (.tuple #[u, .int .i64 c]) ∧ RowI w' u L ∧ Below w.heap.size w w'
theorem own_keep {w w2 : World} {base n : Nat} {v : Value} {xs : List Value} {T : TypeId} {sz : Nat} (h : w.ownsRow base T sz v n xs) (hb : Below w.heap.size w w2) : w2.ownsRow base T sz v n xs := by
  refine ⟨h.1, ?_⟩
  rcases h.2 with h2 | ⟨g, cap, cur, h1, h2, h3, h4⟩
  · exact .inl h2
  · exact .inr ⟨g, cap, cur, h1, h2, (hb.block g (Array.getElem?_eq_some_iff.1 h3).1).trans h3, h4⟩
theorem Vb.cellsM {w W : World} {B : Nat} {l : List Int} {a b c d e f g h' i : Int} (H : Vb w W B l) (e0 : cvs l = #[.int .i64 a, .int .i64 b, .int .i64 c, .int .i64 d, .int .i64 e, .int .i64 f, .int .i64 g, .int .i64 h', .int .i64 i]) : W.cell? ⟨B, 0, none⟩ = some (.int .i64 a) ∧ W.cell? ⟨B, 1, none⟩ = some (.int .i64 b) ∧ W.cell? ⟨B, 2, none⟩ = some (.int .i64 c) ∧ W.cell? ⟨B, 3, none⟩ = some (.int .i64 d) ∧ W.cell? ⟨B, 4, none⟩ = some (.int .i64 e) ∧ W.cell? ⟨B, 5, none⟩ = some (.int .i64 f) ∧ W.cell? ⟨B, 6, none⟩ = some (.int .i64 g) ∧ W.cell? ⟨B, 7, none⟩ = some (.int .i64 h') ∧ W.cell? ⟨B, 8, none⟩ = some (.int .i64 i) := by
  have h := H.cell
  rw [e0] at h
  exact ⟨h 0, h 1, h 2, h 3, h 4, h 5, h 6, h 7, h 8⟩
set_option maxRecDepth 100000 in
set_option maxHeartbeats 4000000 in
theorem cdists_s (s : ByteArray) (v : Value) (most : Int) (w : World) (hs : nineB s = false) : Calls Tryd.prog 47 #[.string s, v, .int .i64 most] w (DsP [] 2 w) := by
  have HS := hid hs
  clear hs
  go_enter Tryd.func47, Tryd.ntmps47
  go_wp2_with fail
  refine (values_bad s _ HS.out).mono ?_
  rintro e w1 ⟨rfl, hb⟩
  have HA := hid (bstep hb hb.size ((Below.refl w1.heap.size w1).alloc (Nat.le_refl _) (.cells (cvs zero9) 66)))
  clear hb
  unfold cvs zero9 at HA
  unfold cvs zero9
  simp only [List.map_cons, List.map_nil] at HA
  simp only [List.map_cons, List.map_nil]
  go_wp2_with fail
  go_ret2
  exact ⟨_, rfl, .inl ⟨_, _, rfl, rfl⟩, HA.out⟩
set_option maxRecDepth 100000 in
set_option maxHeartbeats 4000000 in
theorem cdists_no (s : ByteArray) (v : Value) (ls : List ByteArray) (most c : Int) (w : World) (hr : RowS w v ls) (hs : nineB s = true)
    (hc : (ls.all nineB = false ∧ c = 2) ∨ (ls.all nineB = true ∧ inB most 0 9 = false ∧ c = 7) ∨ (ls.all nineB = true ∧ inB most 0 9 = true ∧ 2000 < ls.length ∧ c = 4)) : Calls Tryd.prog 47 #[.string s, v, .int .i64 most] w (DsP [] c w) := by
  have HR := hid (fun w1 (g : Below w.heap.size w w1) => hr.keep g)
  have HS := hid hs
  have H9 := hid (vals_is9 hs)
  have hnm := hr.most
  unfold maxLen at hnm
  obtain ⟨a, b, o, cap, rfl, _, _, _⟩ := hr
  obtain ⟨n, hn⟩ : ∃ n, n = ls.length := ⟨_, rfl⟩
  rw [← hn] at hnm hc HR ⊢
  obtain ⟨l, hv⟩ : ∃ l, vals s = l := ⟨_, rfl⟩
  rw [hv] at H9
  have HV := hid hv
  clear hs hn hv
  obtain ⟨A, hA⟩ : ∃ A, ls.all nineB = A := ⟨_, rfl⟩
  obtain ⟨M, hM⟩ : ∃ M, inB most 0 9 = M := ⟨_, rfl⟩
  have HA := hid hA
  have HM := hid hM
  rw [hA, hM] at hc
  clear hA hM
  go_enter Tryd.func47, Tryd.ntmps47
  go_wp2_with fail
  refine (values_ok s _ HS.out).mono ?_
  rintro e w1 ⟨rfl, hb⟩
  rw [HV.out]
  have HB1 := hid hb
  clear hb
  have HX0 := vb_new w1 l
  have HX := hid (Vb.mk HX0.row (Nat.le_trans HB1.out.size HX0.new) (bstep HB1.out HB1.out.size HX0.low) : Vb w _ w1.heap.size l)
  clear HX0
  obtain ⟨a1, b1, c1, d1, e1, f1, g1, h1, i1, hl⟩ := nine_list H9.out.1
  have hcv : cvs l = #[.int .i64 a1, .int .i64 b1, .int .i64 c1, .int .i64 d1, .int .i64 e1, .int .i64 f1, .int .i64 g1, .int .i64 h1, .int .i64 i1] := by rw [hl]; rfl
  rw [hcv] at HX
  rw [hcv]
  clear hl hcv
  go_wp2_with fail
  refine (contains_any _ ls _ (HR.out _ HX.out.low)).mono ?_
  rintro e w2 ⟨rfl, hb⟩
  rw [HA.out]
  have HX2 := hid (HX.out.keep hb)
  clear hb HX
  rcases hc with ⟨rfl, rfl⟩ | ⟨rfl, rfl, rfl⟩ | ⟨rfl, rfl, hgt, rfl⟩
  · go_wp2_with fail
    go_ret2
    exact ⟨_, rfl, .inl ⟨_, _, rfl, rfl⟩, HX2.out.low⟩
  · go_wp2_with (go_at_call 56; refine (cwithin_any _ _ _ _).mono ?_; rintro e w' ⟨rfl, rfl⟩; rw [HM.out])
    go_ret2
    exact ⟨_, rfl, .inl ⟨_, _, rfl, rfl⟩, HX2.out.low⟩
  · have hgt2 : (2000 : Int) < (n : Int) := by omega
    go_wp2_with (go_at_call 56; refine (cwithin_any _ _ _ _).mono ?_; rintro e w' ⟨rfl, rfl⟩; rw [HM.out])
    go_ret2
    exact ⟨_, rfl, .inl ⟨_, _, rfl, rfl⟩, HX2.out.low⟩
set_option maxRecDepth 100000 in
set_option maxHeartbeats 8000000 in
theorem cdists_ok (s : ByteArray) (v : Value) (ls : List ByteArray) (most : Int) (w : World) (hr : RowS w v ls) (hs : nineB s = true) (hall : ls.all nineB = true) (hm : inB most 0 9 = true) (hlen : ls.length ≤ 2000) :
    Calls Tryd.prog 47 #[.string s, v, .int .i64 most] w (DsP (dsL s ls) 0 w) := by
  obtain ⟨i0, hi, hz0, hz1, hz2⟩ := infoJ
  have HR := hid (fun w1 (g : Below w.heap.size w w1) => hr.keep g)
  have HS := hid hs
  have HALL := hid hall
  have HM := hid hm
  have H9 := hid (vals_is9 hs)
  obtain ⟨a, b, o, cap, rfl, ha, _, _⟩ := hr
  obtain ⟨n, hn⟩ : ∃ n, n = ls.length := ⟨_, rfl⟩
  have HN := hid hn
  have hDL := dsL_len s ls
  rw [← hn] at hlen HR hDL ⊢
  have HDL := hid hDL
  have HDAT := hid (fun k (h : k < ls.length) => dsL_at s ls h (by rw [HDL.out, HN.out]; exact h))
  generalize dsL s ls = ds at *
  obtain ⟨l, hv⟩ : ∃ l, vals s = l := ⟨_, rfl⟩
  rw [hv] at H9 HDAT
  have HV := hid hv
  clear hs hn hv hall hm ha hDL
  go_enter Tryd.func47, Tryd.ntmps47
  go_wp2_with fail
  refine (values_ok s _ HS.out).mono ?_
  rintro e w1 ⟨rfl, hb⟩
  rw [HV.out]
  have HB1 := hid hb
  clear hb
  have HX0 := vb_new w1 l
  have HX := hid (Vb.mk HX0.row (Nat.le_trans HB1.out.size HX0.new) (bstep HB1.out HB1.out.size HX0.low) : Vb w _ w1.heap.size l)
  clear HX0
  obtain ⟨a1, b1, c1, d1, e1, f1, g1, h1, i1, hl⟩ := nine_list H9.out.1
  have hcv : cvs l = #[.int .i64 a1, .int .i64 b1, .int .i64 c1, .int .i64 d1, .int .i64 e1, .int .i64 f1, .int .i64 g1, .int .i64 h1, .int .i64 i1] := by rw [hl]; rfl
  have HCV := hid hcv
  rw [hcv] at HX
  rw [hcv]
  clear hl hcv
  go_wp2_with fail
  generalize World.alloc w1 _ = W1 at *
  generalize w1.heap.size = B at *
  refine (contains_any _ ls _ (HR.out _ HX.out.low)).mono ?_
  rintro e w2 ⟨rfl, hb⟩
  rw [HALL.out]
  have HX2 := hid (HX.out.keep hb)
  clear hb HX
  have hB1 : B + 1 ≤ w2.heap.size := vb_lt HX2.out
  have hwB := HX2.out.new
  have hng : ¬ (2000 : Int) < (n : Int) := by omega
  go_wp2_with (first
    | (go_at_call 56; refine (cwithin_any _ _ _ _).mono ?_; rintro e w' ⟨rfl, rfl⟩; rw [HM.out])
    | (at_make; refine wpList_make_full _ rfl _ _ 31 rfl (B + 1) 3 i0 (.int .i64 0) 1 Tryd.underlying31 hi hz0 hz1 _ _ _ _ n rfl rfl rfl rfl (by rw [hz2]; omega) (by unfold maxLen; omega) hB1 ?_; intro w3 hown3 hgrow3; have HO := hid hown3; have HX3 := hid (HX2.out.keep ((Below.refl w2.heap.size w2).grown hgrow3 (Nat.le_refl _) (fun j e => by cases e))); clear hown3 hgrow3))
  generalize w2.heap.size = G at *
  go_loopw [37] (fun t wr => ∃ k : Nat, k ≤ n ∧ t = .int .i64 (k : Int) ∧ Hid (wr.ownsRow (B + 1) 3 1 (.slice (some ⟨G, 0, none⟩) n n) n ((rowD ds k).map (Value.int .i64))) ∧ Hid (Vb w wr B l)) (fun t _ => n - (intOf t).toNat)
  case atStart =>
    refine ⟨0, Nat.zero_le _, rfl, ?_, HX3⟩
    have h := HO.out
    rw [made_zero] at h
    rw [rowD_zero, List.map_replicate, HDL.out]
    exact h
  case round =>
    clear HX2
    obtain ⟨k, hk, rfl, hO, hX⟩ := hrel
    by_cases hlt : k < n
    · have hlt' : (k : Int) < n := by omega
      have hkl : k < ls.length := by rw [← HN.out]; exact hlt
      have hkd : k < ds.length := by rw [HDL.out]; exact hlt
      obtain ⟨a', b', o', cap', hv, ha', _, hcell⟩ := HR.out _ hX.out.low
      injection hv with hv1 hv2 hv3
      subst hv1 hv3
      rcases ha' with h0 | rfl
      · rw [h0] at hkl; simp at hkl
      have c0 := hcell k hkl
      have hn9 := List.all_eq_true.1 HALL.out _ (List.getElem_mem hkl)
      have HDK := hid (HDAT.out k hkl)
      have HSET := hid (rowD_set hkd)
      have hat := rowD_at hkd
      have HLT := hid hlt
      clear hcell hv2 hlt
      generalize ls[k]'hkl = c at *
      generalize ds[k]'_ = D at *
      have HN9 := hid hn9
      have HC9 := hid (vals_is9 hn9)
      clear hn9
      go_wp2_with fail
      refine (values_ok c _ HN9.out).mono ?_
      rintro e w4 ⟨rfl, hb⟩
      obtain ⟨m, hm⟩ : ∃ m, vals c = m := ⟨_, rfl⟩
      rw [hm] at HC9 HDK ⊢
      clear hm
      obtain ⟨a2, b2, c2, d2, e2, f2, g2, h2, i2, hl2⟩ := nine_list HC9.out.1
      have hcm : cvs m = #[.int .i64 a2, .int .i64 b2, .int .i64 c2, .int .i64 d2, .int .i64 e2, .int .i64 f2, .int .i64 g2, .int .i64 h2, .int .i64 i2] := by rw [hl2]; rfl
      have HX4 := hid ((hX.out.keep hb).keep ((Below.refl w4.heap.size w4).alloc (Nat.le_refl _) (.cells (cvs m) 66)))
      have HO4 := hid (own_keep (own_keep hO.out hb) ((Below.refl w4.heap.size w4).alloc (Nat.le_refl _) (.cells (cvs m) 66)))
      have HD := hid (distance_any l m (w4.alloc (.cells (cvs m) 66)) H9.out.1 HC9.out.1)
      rw [HCV.out] at HD
      rw [hcm] at HX4 HO4 HD ⊢
      obtain ⟨q0, q1, q2, q3, q4, q5, q6, q7, q8⟩ := HX4.out.cellsM HCV.out
      clear hl2 hcm hb
      go_wp2_with fail
      refine HD.out.mono ?_
      rintro e5 w5 ⟨rfl, hb⟩
      have HX5 := hid (HX4.out.keep hb)
      have HO5 := hid (own_keep HO4.out hb)
      rw [← HDK.out]
      clear hb q0 q1 q2 q3 q4 q5 q6 q7 q8 HD HX4 HO4
      have k0 := (HO5.out.cellAt k (by omega)).trans hat
      have k1 := HO5.out.frozenAt k
      have HS6 := hid (show World.ownsRow _ _ _ _ _ _ _ from by have h := (HO5.out.stored k (.int .i64 D)).1; rw [HSET.out] at h; exact h)
      have HX6 := hid (HX5.out.other (show B ≠ G by omega) (show w.heap.size ≤ G by omega) k (.int .i64 D))
      clear hat
      go_wp2_with fail
      go_roundw
      case rel => exact ⟨k + 1, HLT.out, by go_num, HS6, HX6⟩
      case measure => have := HLT.out; simp [intOf]; omega
    · obtain rfl : k = n := by omega
      have HE : Hid (OwnJ wr (B + 1) (.slice (some ⟨G, 0, none⟩) k k) ds) := by
        have h := hO.out
        have e := rowD_all ds
        rw [HDL.out] at e
        rw [e] at h
        show World.ownsRow _ _ _ _ _ _ _
        rw [HDL.out]
        exact h
      go_wp2_with fail
      go_ret2
      exact ⟨_, rfl, HE.out.rowI, hX.out.low⟩
/-- The error of distances. -/
def dsC (s : ByteArray) (ls : List ByteArray) (most : Int) : Int := if okS s ls = true then (if inB most 0 9 = true then (if 2000 < ls.length then 4 else 0) else 7) else 2
def dsO (s : ByteArray) (ls : List ByteArray) (most : Int) : List Int := if dsC s ls most = 0 then dsL s ls else []
theorem cdists_any (s : ByteArray) (v : Value) (ls : List ByteArray) (most : Int) (w : World) (hr : RowS w v ls) : Calls Tryd.prog 47 #[.string s, v, .int .i64 most] w (DsP (dsO s ls most) (dsC s ls most) w) := by
  unfold dsO dsC okS
  cases hs : nineB s
  · exact cdists_s s v most w hs
  cases ha : ls.all nineB
  · exact cdists_no s v ls most 2 w hr hs (.inl ⟨ha, rfl⟩)
  cases hm : inB most 0 9
  · exact cdists_no s v ls most 7 w hr hs (.inr (.inl ⟨ha, hm, rfl⟩))
  by_cases hl : 2000 < ls.length
  · simp only [Bool.and_self, if_true, if_pos hl]
    exact cdists_no s v ls most 4 w hr hs (.inr (.inr ⟨ha, hm, hl, rfl⟩))
  · simp only [Bool.and_self, if_true, if_neg hl]
    exact cdists_ok s v ls most w hr hs ha hm (by omega)
end Go.Proofs.YtmhkgpcnefcjaaaDoor
