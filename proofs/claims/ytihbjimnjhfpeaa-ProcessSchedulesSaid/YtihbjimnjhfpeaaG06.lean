/- Texts of this seat, one behind the other. -/
import Derived.Test.YtihbjimnjhfpeaaG05
/- Walk of Lookup of the code where it looks: contract. -/
namespace Go.Proofs.Ytihbjimnjhfpeaa
open Go.RowKit Go.Lib

theorem bytes_ne {a b : ByteArray} (h : ¬ a = b) : (a.toList == b.toList) = false := by
  rw [Bool.eq_false_iff]
  intro e
  have e := eq_of_beq e
  rw [ByteArray.toList_eq, ByteArray.toList_eq] at e
  exact h (ByteArray.ext (Array.toList_inj.1 e))
theorem bytes_eq (a : ByteArray) : (a.toList == a.toList) = true := beq_self_eq_true _
set_option maxRecDepth 20000 in
set_option maxHeartbeats 8000000 in
theorem plook_run (v : Value) (l : List Sch) (p : ByteArray) (i f : Int) (w : World) (hr : RowE w v l) (hs : schsB l = true) (hg : (okT i && inB f 0 1000000) = true) :
    Calls Try.prog 5 #[v, .string p, .int .i64 i, .int .i64 f] w (LkP (lkV l p i f) (lkE l p i f) w) := by
  have HVS := hid (pvschs_any v l w hr)
  rw [hs] at HVS
  have HR := hid (fun w1 (g : Below w.heap.size w w1) => hr.keep g)
  have HEND := hid (fun a b e => lk_end (l := l) (p := p) (i := i) (f := f) (a := a) (b := b) hs hg e)
  generalize lkE l p i f = le at *
  generalize lkV l p i f = lv at *
  obtain ⟨h1, h2⟩ := Bool.and_eq_true_iff.1 hg
  have HOL := hid (show okL [i] = true by simp [okL, h1])
  have HFL : Hid ((decide (0 ≤ f) && decide (f ≤ 1000000)) = true) := h2
  have hm := hr.most
  unfold maxLen at hm
  obtain ⟨va, vc, rfl⟩ := hr.shape
  obtain ⟨n, hn⟩ : ∃ n, n = l.length := ⟨_, rfl⟩
  have HN := hid hn
  rw [← hn] at hm HR HVS ⊢
  clear hr hs hg h1 h2 hn
  go_enter Try.func5, Try.ntmps5
  go_wp2_with fail
  refine HVS.out.mono ?_
  rintro e w1 ⟨rfl, hb⟩
  have HB := hid hb
  clear hb HVS
  go_wp2_with fail
  refine (ptemps_any _ _ [i] (one_row i _ (by simp))).mono ?_
  rintro e w2 ⟨rfl, rfl⟩
  rw [HOL.out]
  have HB := hid (HB.out.alloc HB.out.size (.cells #[.int .i64 i] 3))
  go_wp2_with fail
  refine (pwithin_any _ _ _ _).mono ?_
  rintro e w3 ⟨rfl, rfl⟩
  rw [HFL.out]
  go_wp2_with fail
  go_loopw [10, 11, 28] (fun fo er t wr => ∃ k a b : Nat, k ≤ n ∧ fo = .int .i64 (a : Int) ∧ er = .int .i64 (lkC b) ∧ t = .int .i64 (k : Int) ∧ Hid (lkS l p i f k = (a, b)) ∧ Hid (Below w.heap.size w wr)) (fun _ _ t _ => n - (intOf t).toNat)
  case atStart => exact ⟨0, 0, 0, Nat.zero_le _, rfl, rfl, rfl, rfl, HB⟩
  case round =>
    obtain ⟨k, a, b, hk, rfl, rfl, rfl, HS, hB⟩ := hrel
    by_cases hlt : k < n
    · have hlt' : (k : Int) < n := by omega
      have hkl : k < l.length := by rw [← HN.out]; exact hlt
      obtain ⟨a', b', o', cap', hv, ha', _, hcell⟩ := HR.out _ hB.out
      injection hv with hv1 hv2 hv3
      subst hv1 hv3
      rcases ha' with h0 | rfl
      · rw [h0] at hkl; simp at hkl
      obtain ⟨c0, c1, c2, c3, c4, c5⟩ := hcell k hkl
      have HLT := hid hlt
      have HSK := hid (fun h => lkS_skip hkl HS.out h)
      clear hv2 hlt c5
      generalize hx : l[k]'hkl = x at *
      by_cases hp : x.pr = p
      · have hq : (x.pr.toList == p.toList) = true := by rw [hp]; exact bytes_eq p
        have HP := hid hp
        clear hp
        have BX := hid (box1_start (w := wr) (A := #[.string x.pr, .int .i64 x.it, .int .i64 x.tm, .int .i64 x.tk, .int .i64 x.fl]) (T := 39) (fz := (0, 0)))
        have HB2 := hid (hB.out.alloc hB.out.size (.cells #[.string x.pr, .int .i64 x.it, .int .i64 x.tm, .int .i64 x.tk, .int .i64 x.fl] 39))
        have HW2 := hid ((Below.refl wr.heap.size wr).alloc (Nat.le_refl _) (.cells #[.string x.pr, .int .i64 x.it, .int .i64 x.tm, .int .i64 x.tk, .int .i64 x.fl] 39))
        have hI := lkS_inv l p i f k
        rw [HS.out] at hI
        dsimp only at hI
        have HNO := hid (fun hf => lkS_none hkl HS.out (by rw [hx]; exact HP.out) hf)
        have HFI := hid (fun hf hb => lkS_first hkl HS.out (by rw [hx]; exact HP.out) hf hb)
        have hft := fun W => fits_any x i f W
        have HFX : Hid (x.fit i f = (l[k]'hkl).fit i f) := by rw [hx]; rfl
        generalize hF : x.fit i f = F at hft
        rcases hI with ⟨rfl, rfl⟩ | ⟨rfl, rfl⟩ | ⟨rfl, ha2⟩
        · have e0 : lkC 0 = 5 := rfl
          rw [e0]
          clear hcell
          go_wp2_with fail
          generalize hWW : wr.alloc (.cells #[.string x.pr, .int .i64 x.it, .int .i64 x.tm, .int .i64 x.tk, .int .i64 x.fl] 39) = W1 at *
          have hbx := fun q : LowBy W1 => BX.out.keep q.low
          have p0 := fun q => (hbx q).fst 0
          have p1 := fun q => (hbx q).fst 1
          have p2 := fun q => (hbx q).fst 2
          have p3 := fun q => (hbx q).fst 3
          have p4 := fun q => (hbx q).fst 4
          simp only [List.getElem?_toArray, List.getElem?_cons_zero, List.getElem?_cons_succ] at p0 p1 p2 p3 p4
          have hcs := fun q : LowBy W1 => low_of (hft q.W)
          cases F
          · have HT := hid (HNO.out (by rw [← HFX.out, hF]))
            refine wp_region_low (by kernel_rfl) (by kernel_rfl) (fun R hR => ?_)
            repeat (refine low_step (by assumption) ?_; intro R hR K hK; go_simp; first | (refine hK _ ?_; clear hK K) | (apply Exists.intro; refine ⟨fun _ => ?_, hK _ ?_⟩; (go_at_call 12; exact hcs _); clear hK K))
            refine low_nil (by assumption) ?_; intro _ hw'; obtain ⟨⟨wq, hlow⟩, hw''⟩ := hw'; subst hw''; have HLOW := hid hlow; clear hlow; (try simp only)
            have HB3 := hid (bstep HB2.out HB2.out.size HLOW.out)
            go_wp2_with fail
            go_roundw
            case rel => exact ⟨k + 1, 0, 1, HLT.out, rfl, rfl, by go_num, HT, HB3⟩
            case measure => have := HLT.out; simp [intOf]; omega
          · have HT := hid (HFI.out (by rw [← HFX.out, hF]) (by omega))
            refine wp_region_low (by kernel_rfl) (by kernel_rfl) (fun R hR => ?_)
            repeat (refine low_step (by assumption) ?_; intro R hR K hK; go_simp; first | (refine hK _ ?_; clear hK K) | (apply Exists.intro; refine ⟨fun _ => ?_, hK _ ?_⟩; (go_at_call 12; exact hcs _); clear hK K))
            refine low_nil (by assumption) ?_; intro _ hw'; obtain ⟨⟨wq, hlow⟩, hw''⟩ := hw'; subst hw''; have HLOW := hid hlow; clear hlow; (try simp only)
            have HB3 := hid (bstep HB2.out HB2.out.size HLOW.out)
            go_wp2_with fail
            go_roundw
            case rel => exact ⟨k + 1, k, 2, HLT.out, rfl, rfl, by go_num, HT, HB3⟩
            case measure => have := HLT.out; simp [intOf]; omega
        · have e0 : lkC 1 = 8 := rfl
          rw [e0]
          clear hcell
          go_wp2_with fail
          generalize hWW : wr.alloc (.cells #[.string x.pr, .int .i64 x.it, .int .i64 x.tm, .int .i64 x.tk, .int .i64 x.fl] 39) = W1 at *
          have hbx := fun q : LowBy W1 => BX.out.keep q.low
          have p0 := fun q => (hbx q).fst 0
          have p1 := fun q => (hbx q).fst 1
          have p2 := fun q => (hbx q).fst 2
          have p3 := fun q => (hbx q).fst 3
          have p4 := fun q => (hbx q).fst 4
          simp only [List.getElem?_toArray, List.getElem?_cons_zero, List.getElem?_cons_succ] at p0 p1 p2 p3 p4
          have hcs := fun q : LowBy W1 => low_of (hft q.W)
          cases F
          · have HT := hid (HNO.out (by rw [← HFX.out, hF]))
            refine wp_region_low (by kernel_rfl) (by kernel_rfl) (fun R hR => ?_)
            repeat (refine low_step (by assumption) ?_; intro R hR K hK; go_simp; first | (refine hK _ ?_; clear hK K) | (apply Exists.intro; refine ⟨fun _ => ?_, hK _ ?_⟩; (go_at_call 12; exact hcs _); clear hK K))
            refine low_nil (by assumption) ?_; intro _ hw'; obtain ⟨⟨wq, hlow⟩, hw''⟩ := hw'; subst hw''; have HLOW := hid hlow; clear hlow; (try simp only)
            have HB3 := hid (bstep HB2.out HB2.out.size HLOW.out)
            go_wp2_with fail
            go_roundw
            case rel => exact ⟨k + 1, 0, 1, HLT.out, rfl, rfl, by go_num, HT, HB3⟩
            case measure => have := HLT.out; simp [intOf]; omega
          · have HT := hid (HFI.out (by rw [← HFX.out, hF]) (by omega))
            refine wp_region_low (by kernel_rfl) (by kernel_rfl) (fun R hR => ?_)
            repeat (refine low_step (by assumption) ?_; intro R hR K hK; go_simp; first | (refine hK _ ?_; clear hK K) | (apply Exists.intro; refine ⟨fun _ => ?_, hK _ ?_⟩; (go_at_call 12; exact hcs _); clear hK K))
            refine low_nil (by assumption) ?_; intro _ hw'; obtain ⟨⟨wq, hlow⟩, hw''⟩ := hw'; subst hw''; have HLOW := hid hlow; clear hlow; (try simp only)
            have HB3 := hid (bstep HB2.out HB2.out.size HLOW.out)
            go_wp2_with fail
            go_roundw
            case rel => exact ⟨k + 1, k, 2, HLT.out, rfl, rfl, by go_num, HT, HB3⟩
            case measure => have := HLT.out; simp [intOf]; omega
        · have e0 : lkC 2 = 0 := rfl
          rw [e0]
          have hal : a < l.length := by omega
          have hy3 := (hcell a hal).2.2.2.1
          have HLS := hid (fun hf hl => lkS_less hkl hal HS.out (by rw [hx]; exact HP.out) hf hl)
          have HMO := hid (fun hf hl => lkS_more hkl hal HS.out (by rw [hx]; exact HP.out) hf hl)
          rw [hx] at HLS HMO
          generalize hy : l[a]'hal = y at *
          have ha3 : (a : Int) < (n : Int) := by omega
          have hj1 : IntKind.i64.wrap (a : Int) = (a : Int) := IntWalk.i64_in _ ⟨by omega, by omega⟩
          clear hcell
          go_wp2_with fail
          generalize hWW : wr.alloc (.cells #[.string x.pr, .int .i64 x.it, .int .i64 x.tm, .int .i64 x.tk, .int .i64 x.fl] 39) = W1 at *
          have hbx := fun q : LowBy W1 => BX.out.keep q.low
          have p0 := fun q => (hbx q).fst 0
          have p1 := fun q => (hbx q).fst 1
          have p2 := fun q => (hbx q).fst 2
          have p3 := fun q => (hbx q).fst 3
          have p4 := fun q => (hbx q).fst 4
          simp only [List.getElem?_toArray, List.getElem?_cons_zero, List.getElem?_cons_succ] at p0 p1 p2 p3 p4
          have hcs := fun q : LowBy W1 => low_of (hft q.W)
          have r3 := fun q : LowBy W1 => keep_cell (bstep HW2.out HW2.out.size q.low) hy3
          cases F
          · have HT := hid (HNO.out (by rw [← HFX.out, hF]))
            refine wp_region_low (by kernel_rfl) (by kernel_rfl) (fun R hR => ?_)
            repeat (refine low_step (by assumption) ?_; intro R hR K hK; go_simp; first | (refine hK _ ?_; clear hK K) | (apply Exists.intro; refine ⟨fun _ => ?_, hK _ ?_⟩; (go_at_call 12; exact hcs _); clear hK K))
            refine low_nil (by assumption) ?_; intro _ hw'; obtain ⟨⟨wq, hlow⟩, hw''⟩ := hw'; subst hw''; have HLOW := hid hlow; clear hlow; (try simp only)
            have HB3 := hid (bstep HB2.out HB2.out.size HLOW.out)
            go_wp2_with fail
            go_roundw
            case rel => exact ⟨k + 1, a, 2, HLT.out, rfl, rfl, by go_num, HT, HB3⟩
            case measure => have := HLT.out; simp [intOf]; omega
          · cases hd : decide (x.tk < y.tk)
            · have HT := hid (HMO.out hF (by simpa using hd))
              refine wp_region_low (by kernel_rfl) (by kernel_rfl) (fun R hR => ?_)
              repeat (refine low_step (by assumption) ?_; intro R hR K hK; go_simp; first | (refine hK _ ?_; clear hK K) | (apply Exists.intro; refine ⟨fun _ => ?_, hK _ ?_⟩; (go_at_call 12; exact hcs _); clear hK K))
              refine low_nil (by assumption) ?_; intro _ hw'; obtain ⟨⟨wq, hlow⟩, hw''⟩ := hw'; subst hw''; have HLOW := hid hlow; clear hlow; (try simp only)
              have HB3 := hid (bstep HB2.out HB2.out.size HLOW.out)
              go_wp2_with fail
              go_roundw
              case rel => exact ⟨k + 1, a, 2, HLT.out, rfl, rfl, by go_num, HT, HB3⟩
              case measure => have := HLT.out; simp [intOf]; omega
            · have HT := hid (HLS.out hF (by simpa using hd))
              refine wp_region_low (by kernel_rfl) (by kernel_rfl) (fun R hR => ?_)
              repeat (refine low_step (by assumption) ?_; intro R hR K hK; go_simp; first | (refine hK _ ?_; clear hK K) | (apply Exists.intro; refine ⟨fun _ => ?_, hK _ ?_⟩; (go_at_call 12; exact hcs _); clear hK K))
              refine low_nil (by assumption) ?_; intro _ hw'; obtain ⟨⟨wq, hlow⟩, hw''⟩ := hw'; subst hw''; have HLOW := hid hlow; clear hlow; (try simp only)
              have HB3 := hid (bstep HB2.out HB2.out.size HLOW.out)
              go_wp2_with fail
              go_roundw
              case rel => exact ⟨k + 1, k, 2, HLT.out, rfl, rfl, by go_num, HT, HB3⟩
              case measure => have := HLT.out; simp [intOf]; omega
      · have hp1 := bytes_ne hp
        have HT := hid (HSK.out hp)
        have HB2 := hid (hB.out.alloc hB.out.size (.cells #[.string x.pr, .int .i64 x.it, .int .i64 x.tm, .int .i64 x.tk, .int .i64 x.fl] 39))
        clear hcell hp
        go_wp2_with fail
        go_roundw
        case rel => exact ⟨k + 1, a, b, HLT.out, rfl, rfl, by go_num, HT, HB2⟩
        case measure => have := HLT.out; simp [intOf]; omega
    · obtain rfl : k = n := by omega
      have HE := hid (HEND.out a b (by rw [← HN.out]; exact HS.out))
      go_wp2_with fail
      refine bodyPost_ret (v := .tuple #[.int .i64 (a : Int), .int .i64 (lkC b)]) (by simp [results, Try.results5, go_sem]) rfl ⟨?_, hB.out⟩
      rw [HE.out.1, HE.out.2]
end Go.Proofs.Ytihbjimnjhfpeaa

/- Lookup of the code whatever comes in; the early ends of the reference's: contracts. -/
namespace Go.Proofs.Ytihbjimnjhfpeaa
open Go.RowKit Go.Lib

theorem plook_any (v : Value) (l : List Sch) (p : ByteArray) (i f : Int) (w : World) (hr : RowE w v l) :
    Calls Try.prog 5 #[v, .string p, .int .i64 i, .int .i64 f] w (LkP (lkV l p i f) (lkE l p i f) w) := by
  cases hs : schsB l
  · obtain ⟨e1, e2⟩ := lk_bad (p := p) (i := i) (f := f) hs
    rw [e1, e2]
    exact plook_bad v l p i f w hr hs
  · cases hg : (okT i && inB f 0 1000000)
    · obtain ⟨e1, e2⟩ := lk_rng (p := p) hs hg
      rw [e1, e2]
      exact plook_rng v l p i f w hr hs hg
    · exact plook_run v l p i f w hr hs hg
set_option maxRecDepth 20000 in
set_option maxHeartbeats 4000000 in
theorem xlook_bad (v : Value) (l : List Sch) (p : ByteArray) (i f : Int) (w : World) (hr : RowE w v l) (hs : schsB l = false) :
    Calls Try.prog 6 #[v, .string p, .int .i64 i, .int .i64 f] w (LkP 0 1 w) := by
  have HVS := hid (xvschs_any v l w hr)
  rw [hs] at HVS
  obtain ⟨va, vc, rfl⟩ := hr.shape
  clear hr hs
  go_enter Try.func6, Try.ntmps6
  go_wp2_with fail
  refine HVS.out.mono ?_
  rintro e w1 ⟨rfl, hb⟩
  go_wp2_with fail
  go_ret2
  exact ⟨rfl, hb⟩
set_option maxRecDepth 20000 in
set_option maxHeartbeats 4000000 in
theorem xlook_rng (v : Value) (l : List Sch) (p : ByteArray) (i f : Int) (w : World) (hr : RowE w v l) (hs : schsB l = true) (hg : (okT i && inB f 0 1000000) = false) :
    Calls Try.prog 6 #[v, .string p, .int .i64 i, .int .i64 f] w (LkP 0 7 w) := by
  have HVS := hid (xvschs_any v l w hr)
  rw [hs] at HVS
  have HOL : Hid ((decide (-50000 ≤ i) && decide (i ≤ 200000)) = okT i) := rfl
  have HFL : Hid ((decide (0 ≤ f) && decide (f ≤ 1000000)) = inB f 0 1000000) := rfl
  obtain ⟨va, vc, rfl⟩ := hr.shape
  generalize okT i = b1 at *
  generalize inB f 0 1000000 = b2 at *
  clear hr hs
  cases b1
  · go_enter Try.func6, Try.ntmps6
    go_wp2_with fail
    refine HVS.out.mono ?_
    rintro e w1 ⟨rfl, hb⟩
    have HB := hid hb
    clear hb
    go_wp2_with fail
    refine (warm_any _ _).mono ?_
    rintro e w2 ⟨rfl, rfl⟩
    rw [HOL.out]
    go_wp2_with fail
    go_ret2
    exact ⟨rfl, HB.out⟩
  · obtain rfl : b2 = false := by simpa using hg
    go_enter Try.func6, Try.ntmps6
    go_wp2_with fail
    refine HVS.out.mono ?_
    rintro e w1 ⟨rfl, hb⟩
    have HB := hid hb
    clear hb
    go_wp2_with fail
    refine (warm_any _ _).mono ?_
    rintro e w2 ⟨rfl, rfl⟩
    rw [HOL.out]
    go_wp2_with fail
    refine (x4within_any _ _ _ _).mono ?_
    rintro e w3 ⟨rfl, rfl⟩
    rw [HFL.out]
    go_wp2_with fail
    go_ret2
    exact ⟨rfl, HB.out⟩
end Go.Proofs.Ytihbjimnjhfpeaa

/- Walk of the reference's Lookup where it looks: contract. -/
namespace Go.Proofs.Ytihbjimnjhfpeaa
open Go.RowKit Go.Lib

def bestE (a b : Nat) : Int := if b = 2 then (a : Int) else -1
set_option maxRecDepth 20000 in
set_option maxHeartbeats 8000000 in
theorem xlook_run (v : Value) (l : List Sch) (p : ByteArray) (i f : Int) (w : World) (hr : RowE w v l) (hs : schsB l = true) (hg : (okT i && inB f 0 1000000) = true) :
    Calls Try.prog 6 #[v, .string p, .int .i64 i, .int .i64 f] w (LkP (lkV l p i f) (lkE l p i f) w) := by
  have HVS := hid (xvschs_any v l w hr)
  rw [hs] at HVS
  have HR := hid (fun w1 (g : Below w.heap.size w w1) => hr.keep g)
  have HEND := hid (fun a b e => lk_end (l := l) (p := p) (i := i) (f := f) (a := a) (b := b) hs hg e)
  generalize lkE l p i f = le at *
  generalize lkV l p i f = lv at *
  obtain ⟨h1, h2⟩ := Bool.and_eq_true_iff.1 hg
  have HOL : Hid ((decide (-50000 ≤ i) && decide (i ≤ 200000)) = true) := h1
  have HFL : Hid ((decide (0 ≤ f) && decide (f ≤ 1000000)) = true) := h2
  have hm := hr.most
  unfold maxLen at hm
  obtain ⟨va, vc, rfl⟩ := hr.shape
  obtain ⟨n, hn⟩ : ∃ n, n = l.length := ⟨_, rfl⟩
  have HN := hid hn
  rw [← hn] at hm HR HVS ⊢
  clear hr hs hg h1 h2 hn
  go_enter Try.func6, Try.ntmps6
  go_wp2_with fail
  refine HVS.out.mono ?_
  rintro e w1 ⟨rfl, hb⟩
  have HB := hid hb
  clear hb HVS
  go_wp2_with fail
  refine (warm_any _ _).mono ?_
  rintro e w2 ⟨rfl, rfl⟩
  rw [HOL.out]
  go_wp2_with fail
  refine (x4within_any _ _ _ _).mono ?_
  rintro e w3 ⟨rfl, rfl⟩
  rw [HFL.out]
  go_wp2_with fail
  go_loopw [10, 11, 12] (fun be kn t wr => ∃ k a b : Nat, k ≤ n ∧ be = .int .i64 (bestE a b) ∧ kn = .bool (b != 0) ∧ t = .int .i64 (k : Int) ∧ Hid (lkS l p i f k = (a, b)) ∧ Hid (Below w.heap.size w wr)) (fun _ _ t _ => n - (intOf t).toNat)
  case atStart => exact ⟨0, 0, 0, Nat.zero_le _, rfl, rfl, rfl, rfl, HB⟩
  case round =>
    obtain ⟨k, a, b, hk, rfl, rfl, rfl, HS, hB⟩ := hrel
    have hI := lkS_inv l p i f k
    rw [HS.out] at hI
    dsimp only at hI
    by_cases hlt : k < n
    · have hlt' : (k : Int) < n := by omega
      have hkl : k < l.length := by rw [← HN.out]; exact hlt
      obtain ⟨a', b', o', cap', hv, ha', _, hcell⟩ := HR.out _ hB.out
      injection hv with hv1 hv2 hv3
      subst hv1 hv3
      rcases ha' with h0 | rfl
      · rw [h0] at hkl; simp at hkl
      obtain ⟨c0, c1, c2, c3, c4, c5⟩ := hcell k hkl
      have HLT := hid hlt
      have HSK := hid (fun h => lkS_skip hkl HS.out h)
      clear hv2 hlt c5
      generalize hx : l[k]'hkl = x at *
      by_cases hp : x.pr = p
      · have hq : (x.pr.toList == p.toList) = true := by rw [hp]; exact bytes_eq p
        have HP := hid hp
        clear hp
        have HNO := hid (fun hf => lkS_none hkl HS.out (by rw [hx]; exact HP.out) hf)
        have HFI := hid (fun hf hb => lkS_first hkl HS.out (by rw [hx]; exact HP.out) hf hb)
        rw [hx] at HNO HFI
        have HFT := hid (show x.fit i f = (decide (x.it ≤ i) && decide (f ≤ x.fl)) from rfl)
        rcases hI with ⟨rfl, rfl⟩ | ⟨rfl, rfl⟩ | ⟨rfl, ha2⟩
        · have e0 : bestE 0 0 = -1 := rfl
          rw [e0]
          clear hcell
          cases d1 : decide (x.it ≤ i)
          · have HT := hid (HNO.out (by rw [HFT.out, d1]; rfl))
            go_wp2_with fail
            go_quiet (fail)
            go_wp2_with fail
            go_roundw
            case rel => exact ⟨k + 1, 0, 1, HLT.out, rfl, rfl, by go_num, HT, hid (by first | exact bdrewN hB.out | exact hB.out)⟩
            case measure => have := HLT.out; simp [intOf]; omega
          · cases d2 : decide (f ≤ x.fl)
            · have HT := hid (HNO.out (by rw [HFT.out, d1, d2]; rfl))
              go_wp2_with fail
              go_quiet (fail)
              go_wp2_with fail
              go_roundw
              case rel => exact ⟨k + 1, 0, 1, HLT.out, rfl, rfl, by go_num, HT, hid (by first | exact bdrewN hB.out | exact hB.out)⟩
              case measure => have := HLT.out; simp [intOf]; omega
            · have HT := hid (HFI.out (by rw [HFT.out, d1, d2]; rfl) (by omega))
              go_wp2_with fail
              go_quiet (fail)
              go_wp2_with fail
              go_roundw
              case rel => exact ⟨k + 1, k, 2, HLT.out, rfl, rfl, by go_num, HT, hid (by first | exact bdrewN hB.out | exact hB.out)⟩
              case measure => have := HLT.out; simp [intOf]; omega
        · have e0 : bestE 0 1 = -1 := rfl
          rw [e0]
          clear hcell
          cases d1 : decide (x.it ≤ i)
          · have HT := hid (HNO.out (by rw [HFT.out, d1]; rfl))
            go_wp2_with fail
            go_quiet (fail)
            go_wp2_with fail
            go_roundw
            case rel => exact ⟨k + 1, 0, 1, HLT.out, rfl, rfl, by go_num, HT, hid (by first | exact bdrewN hB.out | exact hB.out)⟩
            case measure => have := HLT.out; simp [intOf]; omega
          · cases d2 : decide (f ≤ x.fl)
            · have HT := hid (HNO.out (by rw [HFT.out, d1, d2]; rfl))
              go_wp2_with fail
              go_quiet (fail)
              go_wp2_with fail
              go_roundw
              case rel => exact ⟨k + 1, 0, 1, HLT.out, rfl, rfl, by go_num, HT, hid (by first | exact bdrewN hB.out | exact hB.out)⟩
              case measure => have := HLT.out; simp [intOf]; omega
            · have HT := hid (HFI.out (by rw [HFT.out, d1, d2]; rfl) (by omega))
              go_wp2_with fail
              go_quiet (fail)
              go_wp2_with fail
              go_roundw
              case rel => exact ⟨k + 1, k, 2, HLT.out, rfl, rfl, by go_num, HT, hid (by first | exact bdrewN hB.out | exact hB.out)⟩
              case measure => have := HLT.out; simp [intOf]; omega
        · have e0 : bestE a 2 = (a : Int) := rfl
          rw [e0]
          have hal : a < l.length := by omega
          have hy3 := (hcell a hal).2.2.2.1
          have HLS := hid (fun hf hl => lkS_less hkl hal HS.out (by rw [hx]; exact HP.out) hf hl)
          have HMO := hid (fun hf hl => lkS_more hkl hal HS.out (by rw [hx]; exact HP.out) hf hl)
          rw [hx] at HLS HMO
          generalize hy : l[a]'hal = y at *
          have ha3 : (a : Int) < (n : Int) := by omega
          have hneg : decide ((a : Int) < 0) = false := by simp
          have hj1 : IntKind.i64.wrap (a : Int) = (a : Int) := IntWalk.i64_in _ ⟨by omega, by omega⟩
          clear hcell
          cases d1 : decide (x.it ≤ i)
          · have HT := hid (HNO.out (by rw [HFT.out, d1]; rfl))
            go_wp2_with fail
            go_quiet (fail)
            go_wp2_with fail
            go_roundw
            case rel => exact ⟨k + 1, a, 2, HLT.out, rfl, rfl, by go_num, HT, hid (by first | exact bdrewN hB.out | exact hB.out)⟩
            case measure => have := HLT.out; simp [intOf]; omega
          · cases d2 : decide (f ≤ x.fl)
            · have HT := hid (HNO.out (by rw [HFT.out, d1, d2]; rfl))
              go_wp2_with fail
              go_quiet (fail)
              go_wp2_with fail
              go_roundw
              case rel => exact ⟨k + 1, a, 2, HLT.out, rfl, rfl, by go_num, HT, hid (by first | exact bdrewN hB.out | exact hB.out)⟩
              case measure => have := HLT.out; simp [intOf]; omega
            · cases hd : decide (x.tk < y.tk)
              · have HT := hid (HMO.out (by rw [HFT.out, d1, d2]; rfl) (by simpa using hd))
                go_wp2_with fail
                go_quiet (fail)
                go_wp2_with fail
                go_roundw
                case rel => exact ⟨k + 1, a, 2, HLT.out, rfl, rfl, by go_num, HT, hid (by first | exact bdrewN hB.out | exact hB.out)⟩
                case measure => have := HLT.out; simp [intOf]; omega
              · have HT := hid (HLS.out (by rw [HFT.out, d1, d2]; rfl) (by simpa using hd))
                go_wp2_with fail
                go_quiet (fail)
                go_wp2_with fail
                go_roundw
                case rel => exact ⟨k + 1, k, 2, HLT.out, rfl, rfl, by go_num, HT, hid (by first | exact bdrewN hB.out | exact hB.out)⟩
                case measure => have := HLT.out; simp [intOf]; omega
      · have hp1 := bytes_ne hp
        have HT := hid (HSK.out hp)
        clear hcell hp hI
        go_wp2_with fail
        go_roundw
        case rel => exact ⟨k + 1, a, b, HLT.out, rfl, rfl, by go_num, HT, hB⟩
        case measure => have := HLT.out; simp [intOf]; omega
    · obtain rfl : k = n := by omega
      have HE := hid (HEND.out a b (by rw [← HN.out]; exact HS.out))
      rcases hI with ⟨rfl, rfl⟩ | ⟨rfl, rfl⟩ | ⟨rfl, ha2⟩
      · go_wp2_with fail
        go_ret2
        exact ⟨by rw [HE.out.1, HE.out.2]; rfl, hB.out⟩
      · have e0 : bestE 0 1 = -1 := rfl
        rw [e0]
        go_wp2_with fail
        go_ret2
        exact ⟨by rw [HE.out.1, HE.out.2]; rfl, hB.out⟩
      · have e0 : bestE a 2 = (a : Int) := rfl
        rw [e0]
        have hneg : decide ((a : Int) < 0) = false := by simp
        go_wp2_with fail
        go_ret2
        exact ⟨by rw [HE.out.1, HE.out.2]; rfl, hB.out⟩
end Go.Proofs.Ytihbjimnjhfpeaa

/- Lookup of the reference whatever comes in: contract. -/
namespace Go.Proofs.Ytihbjimnjhfpeaa
open Go.RowKit Go.Lib

theorem xlook_any (v : Value) (l : List Sch) (p : ByteArray) (i f : Int) (w : World) (hr : RowE w v l) :
    Calls Try.prog 6 #[v, .string p, .int .i64 i, .int .i64 f] w (LkP (lkV l p i f) (lkE l p i f) w) := by
  cases hs : schsB l
  · obtain ⟨e1, e2⟩ := lk_bad (p := p) (i := i) (f := f) hs
    rw [e1, e2]
    exact xlook_bad v l p i f w hr hs
  · cases hg : (okT i && inB f 0 1000000)
    · obtain ⟨e1, e2⟩ := lk_rng (p := p) hs hg
      rw [e1, e2]
      exact xlook_rng v l p i f w hr hs hg
    · exact xlook_run v l p i f w hr hs hg
end Go.Proofs.Ytihbjimnjhfpeaa
