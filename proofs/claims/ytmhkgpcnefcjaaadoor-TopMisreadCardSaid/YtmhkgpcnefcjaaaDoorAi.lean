/- Walks of the reference's Nearest, Doubtful, Only: contracts. -/
import Derived.Test.YtmhkgpcnefcjaaaDoorAh
namespace Go.Proofs.YtmhkgpcnefcjaaaDoor
open Go.RowKit

theorem xd_c {s : ByteArray} {ls : List ByteArray} {most : Int} : (okS s ls = false ∧ xdC s ls = 2 ∧ xdO s ls = [] ∧ dsC s ls most = 2) ∨ (okS s ls = true ∧ xdC s ls = 0 ∧ xdO s ls = dsL s ls ∧ dsC s ls most = (if inB most 0 9 = true then (if 2000 < ls.length then 4 else 0) else 7)) := by
  unfold xdC xdO dsC
  cases h : okS s ls
  · left; exact ⟨rfl, rfl, rfl, rfl⟩
  · right; exact ⟨rfl, rfl, rfl, rfl⟩
set_option maxRecDepth 20000 in
set_option maxHeartbeats 4000000 in
theorem xdoubt_any (s : ByteArray) (v : Value) (ls : List ByteArray) (most : Int) (w : World) (hr : RowS w v ls) (hlen : ls.length ≤ 2100) : Calls Tryd.prog 19 #[.string s, v, .int .i64 most] w (DsP (dbO s ls most) (dsC s ls most) w) := by
  have HD := hid (xdists_any s v ls w hr hlen)
  obtain ⟨a, b, o, cap, rfl, _, _, _⟩ := hr
  have HDB := hid (show dbO s ls most = if dsC s ls most = 0 then upQ most (dsL s ls) else [] from rfl)
  have hdl := dsL_len s ls
  have HLEN := hid hlen
  have hl2 : (ls.length : Int) ≤ 2100 := by omega
  rcases xd_c (s := s) (ls := ls) (most := most) with ⟨_, h1, h2, h3⟩ | ⟨_, h1, h2, h3⟩
  · rw [h1, h2] at HD
    rw [h3] at HDB ⊢
    rw [HDB.out, if_neg (by decide)]
    clear h1 h2 h3 HDB hdl hlen
    go_enter Tryd.func19, Tryd.ntmps19
    go_wp2_with fail
    refine HD.out.mono ?_
    rintro e w2 ⟨u, rfl, hu, hb⟩
    have HB := hid hb
    clear hb hu
    go_wp2_with fail
    go_ret2
    exact ⟨_, rfl, .inl ⟨_, _, rfl, rfl⟩, HB.out⟩
  · rw [h1, h2] at HD
    obtain ⟨M, hM⟩ : ∃ M, inB most 0 9 = M := ⟨_, rfl⟩
    have HM := hid hM
    rw [hM] at h3
    clear h1 h2 hM
    cases M
    · rw [if_neg (by decide)] at h3
      rw [h3] at HDB ⊢
      rw [HDB.out, if_neg (by decide)]
      clear h3 HDB hdl hlen
      go_enter Tryd.func19, Tryd.ntmps19
      go_wp2_with fail
      refine HD.out.mono ?_
      rintro e w2 ⟨u, rfl, hu, hb⟩
      have HB := hid hb
      clear hb hu
      go_wp2_with (go_at_call 52; refine (xwithin_any _ _ _ _).mono ?_; rintro e w' ⟨rfl, rfl⟩; rw [HM.out])
      go_ret2
      exact ⟨_, rfl, .inl ⟨_, _, rfl, rfl⟩, HB.out⟩
    · rw [if_pos rfl] at h3
      by_cases hg : 2000 < ls.length
      · rw [if_pos hg] at h3
        rw [h3] at HDB ⊢
        rw [HDB.out, if_neg (by decide)]
        have hg2 : (2000 : Int) < (ls.length : Int) := by omega
        clear h3 HDB hdl hlen hg
        go_enter Tryd.func19, Tryd.ntmps19
        go_wp2_with fail
        refine HD.out.mono ?_
        rintro e w2 ⟨u, rfl, hu, hb⟩
        have HB := hid hb
        clear hb hu
        go_wp2_with (go_at_call 52; refine (xwithin_any _ _ _ _).mono ?_; rintro e w' ⟨rfl, rfl⟩; rw [HM.out])
        go_ret2
        exact ⟨_, rfl, .inl ⟨_, _, rfl, rfl⟩, HB.out⟩
      · rw [if_neg hg] at h3
        rw [h3] at HDB ⊢
        rw [HDB.out, if_pos rfl]
        have hg2 : ¬ (2000 : Int) < (ls.length : Int) := by omega
        have HDL := hid (show (dsL s ls).length ≤ 2100 by rw [hdl]; exact hlen)
        generalize dsL s ls = ds at *
        clear h3 HDB hdl hlen hg
        go_enter Tryd.func19, Tryd.ntmps19
        go_wp2_with fail
        refine HD.out.mono ?_
        rintro e w2 ⟨u, rfl, hu, hb⟩
        obtain ⟨ua, uc, rfl⟩ := hu.shape
        have HU := hid hu
        have HB := hid hb
        clear hb hu
        go_wp2_with (go_at_call 52; refine (xwithin_any _ _ _ _).mono ?_; rintro e w' ⟨rfl, rfl⟩; rw [HM.out])
        refine (xupto_any most _ ds _ HU.out HDL.out).mono ?_
        rintro e w4 ⟨u2, rfl, ho, hb⟩
        obtain ⟨xa, xc, rfl⟩ := ownJ_shape ho
        have HO := hid ho
        have HB2 := hid (bstep HB.out HB.out.size hb)
        clear ho hb
        go_wp2_with fail
        go_ret2
        exact ⟨_, rfl, HO.out.rowI, HB2.out⟩
set_option maxRecDepth 20000 in
set_option maxHeartbeats 4000000 in
theorem xonly_any (s : ByteArray) (v : Value) (ls : List ByteArray) (most : Int) (w : World) (hr : RowS w v ls) (hlen : ls.length ≤ 2100) :
    Calls Tryd.prog 21 #[.string s, v, .int .i64 most] w fun e w' => e = .returned (.tuple #[.int .i64 (onI (dbO s ls most) (dsC s ls most)), .bool (onB (dbO s ls most) (dsC s ls most)), .int .i64 (dsC s ls most)]) ∧ Below w.heap.size w w' := by
  have HD := hid (xdoubt_any s v ls most w hr hlen)
  clear hr hlen
  generalize dbO s ls most = L at *
  generalize dsC s ls most = c at *
  by_cases h : c = 0
  · subst h
    match L, HD with
    | [], HD =>
      go_enter Tryd.func21, Tryd.ntmps21
      go_wp2_with fail
      refine HD.out.mono ?_
      rintro e w2 ⟨u, rfl, hu, hb⟩
      obtain ⟨ua, uc, rfl⟩ := hu.shape
      simp only [List.length_nil]
      have HB := hid hb
      clear hb hu
      go_wp2_with fail
      refine bodyPost_ret (v := .tuple #[.int .i64 (-1), .bool false, .int .i64 0]) (by simp [results, Tryd.results21, go_sem]) rfl ?_
      exact ⟨rfl, HB.out⟩
    | [x], HD =>
      go_enter Tryd.func21, Tryd.ntmps21
      go_wp2_with fail
      refine HD.out.mono ?_
      rintro e w2 ⟨u, rfl, hu, hb⟩
      obtain ⟨ua, b', o', uc, rfl, ha, hc, _⟩ := hu.form
      rcases ha with h0 | rfl
      · cases h0
      have c0 := hc 0 (by simp)
      simp only [List.length_singleton, List.getElem_cons_zero, Nat.add_zero] at c0 ⊢
      have HB := hid hb
      clear hb hu hc
      go_wp2_with fail
      refine bodyPost_ret (v := .tuple #[.int .i64 x, .bool true, .int .i64 0]) (by simp [results, Tryd.results21, go_sem]) rfl ?_
      exact ⟨rfl, HB.out⟩
    | x :: y :: t, HD =>
      go_enter Tryd.func21, Tryd.ntmps21
      go_wp2_with fail
      refine HD.out.mono ?_
      rintro e w2 ⟨u, rfl, hu, hb⟩
      obtain ⟨ua, uc, rfl⟩ := hu.shape
      have hne : (((x :: y :: t).length : Int) != 1) = true := by simp; omega
      have HON := hid (show onB (x :: y :: t) 0 = false by simp [onB])
      have HB := hid hb
      clear hb hu
      go_wp2_with fail
      refine bodyPost_ret (v := .tuple #[.int .i64 (-1), .bool false, .int .i64 0]) (by simp [results, Tryd.results21, go_sem]) rfl ?_
      exact ⟨by rw [HON.out]; rfl, HB.out⟩
  · have hne : (c != 0) = true := by simpa using h
    have HOI := hid (show onI L c = 0 by unfold onI; rw [if_neg h])
    have HOB := hid (show onB L c = false by unfold onB; rw [if_neg h])
    clear h
    go_enter Tryd.func21, Tryd.ntmps21
    go_wp2_with fail
    refine HD.out.mono ?_
    rintro e w2 ⟨u, rfl, hu, hb⟩
    have HB := hid hb
    clear hb hu
    go_wp2_with fail
    refine bodyPost_ret (v := .tuple #[.int .i64 0, .bool false, .int .i64 c]) (by simp [results, Tryd.results21, go_sem]) rfl ?_
    exact ⟨by rw [HOI.out, HOB.out], HB.out⟩
/-- What Nearest answers of the distances. -/
structure Nr (s : ByteArray) (ls : List ByteArray) (L : List Int) (d c : Int) : Prop where
  bad : dsC s ls 9 ≠ 0 → L = [] ∧ d = 0 ∧ c = dsC s ls 9
  none : dsC s ls 9 = 0 → ls = [] → L = [] ∧ d = 0 ∧ c = 8
  some : dsC s ls 9 = 0 → ls ≠ [] → IsMin d (dsL s ls) ∧ L = upQ d (dsL s ls) ∧ c = 0
theorem nr_ex (s : ByteArray) (ls : List ByteArray) : ∃ L d c, Nr s ls L d c := by
  by_cases h : dsC s ls 9 = 0
  · by_cases g : ls = []
    · exact ⟨[], 0, 8, fun n => absurd h n, fun _ _ => ⟨rfl, rfl, rfl⟩, fun _ n => absurd g n⟩
    · obtain ⟨d, hd⟩ := min_ex (ds := dsL s ls) (by intro e; apply g; have := congrArg List.length e; rw [dsL_len] at this; exact List.length_eq_zero_iff.1 this)
      exact ⟨upQ d (dsL s ls), d, 0, fun n => absurd h n, fun _ n => absurd n g, fun _ _ => ⟨hd, rfl, rfl⟩⟩
  · exact ⟨[], 0, dsC s ls 9, fun _ => ⟨rfl, rfl, rfl⟩, fun n => absurd n h, fun n => absurd n h⟩
theorem cnear_any (s : ByteArray) (v : Value) (ls : List ByteArray) (L : List Int) (d c : Int) (w : World) (hr : RowS w v ls) (hn : Nr s ls L d c) : Calls Tryd.prog 15 #[.string s, v] w (NrP L d c w) := by
  by_cases h : dsC s ls 9 = 0
  · by_cases g : ls = []
    · obtain ⟨rfl, rfl, rfl⟩ := hn.none h g
      subst g
      exact cnear_none s v w hr h
    · obtain ⟨h1, rfl, rfl⟩ := hn.some h g
      exact cnear_ok s v ls d w hr h (List.length_pos_iff.2 g) h1
  · obtain ⟨rfl, rfl, rfl⟩ := hn.bad h
    exact cnear_no s v ls _ w hr rfl h
theorem near_yes {d : Int} {ds : List Int} (h : IsMin d ds) : 0 < (upQ d ds).length := by
  obtain ⟨p, hp, e⟩ := List.getElem_of_mem h.1
  exact List.length_pos_of_mem (upQ_at hp (by omega))
theorem near_not {d k : Int} {ds : List Int} (h : IsMin d ds) (hk : k < d) : upQ k ds = [] := by
  rcases hq : upQ k ds with _ | ⟨x, t⟩
  · rfl
  · have hx : x ∈ upQ k ds := by rw [hq]; exact List.mem_cons_self ..
    obtain ⟨j, hj, _, hle⟩ := upQ_of hx
    have := h.2 _ (List.getElem_mem hj)
    omega
set_option maxRecDepth 20000 in
set_option maxHeartbeats 4000000 in
theorem xnear_any (s : ByteArray) (v : Value) (ls : List ByteArray) (L : List Int) (d c : Int) (w : World) (hr : RowS w v ls) (hlen : ls.length ≤ 2100) (hn : Nr s ls L d c) : Calls Tryd.prog 16 #[.string s, v] w (NrP L d c w) := by
  have HD := hid (xdists_any s v ls w hr hlen)
  obtain ⟨a, b, o, cap, rfl, _, _, _⟩ := hr
  have hdl := dsL_len s ls
  have hl2 : (ls.length : Int) ≤ 2100 := by omega
  have h9 : inB 9 0 9 = true := by decide
  rcases xd_c (s := s) (ls := ls) (most := 9) with ⟨_, h1, h2, h3⟩ | ⟨_, h1, h2, h3⟩
  · rw [h1, h2] at HD
    obtain ⟨rfl, rfl, rfl⟩ := hn.bad (by rw [h3]; decide)
    rw [h3]
    clear h1 h2 h3 hdl hlen hn h9
    go_enter Tryd.func16, Tryd.ntmps16
    go_wp2_with fail
    refine HD.out.mono ?_
    rintro e w2 ⟨u, rfl, hu, hb⟩
    have HB := hid hb
    clear hb hu
    go_wp2_with fail
    refine bodyPost_ret (v := .tuple #[.slice none 0 0, .int .i64 0, .int .i64 2]) (by simp [results, Tryd.results16, go_sem]) rfl ?_
    exact ⟨_, rfl, .inl ⟨_, _, rfl, rfl⟩, HB.out⟩
  · rw [h1, h2] at HD
    rw [h9, if_pos rfl] at h3
    clear h1 h2 h9
    by_cases hg : 2000 < ls.length
    · rw [if_pos hg] at h3
      obtain ⟨rfl, rfl, rfl⟩ := hn.bad (by rw [h3]; decide)
      rw [h3]
      have hg2 : (2000 : Int) < (ls.length : Int) := by omega
      clear h3 hdl hlen hg hn
      go_enter Tryd.func16, Tryd.ntmps16
      go_wp2_with fail
      refine HD.out.mono ?_
      rintro e w2 ⟨u, rfl, hu, hb⟩
      have HB := hid hb
      clear hb hu
      go_wp2_with fail
      refine bodyPost_ret (v := .tuple #[.slice none 0 0, .int .i64 0, .int .i64 4]) (by simp [results, Tryd.results16, go_sem]) rfl ?_
      exact ⟨_, rfl, .inl ⟨_, _, rfl, rfl⟩, HB.out⟩
    · rw [if_neg hg] at h3
      have hg2 : ¬ (2000 : Int) < (ls.length : Int) := by omega
      by_cases g : ls = []
      · obtain ⟨rfl, rfl, rfl⟩ := hn.none h3 g
        subst g
        simp only [List.length_nil]
        clear h3 hdl hlen hn hg hg2 hl2
        go_enter Tryd.func16, Tryd.ntmps16
        go_wp2_with fail
        refine HD.out.mono ?_
        rintro e w2 ⟨u, rfl, hu, hb⟩
        have HB := hid hb
        clear hb hu
        go_wp2_with fail
        refine bodyPost_ret (v := .tuple #[.slice none 0 0, .int .i64 0, .int .i64 8]) (by simp [results, Tryd.results16, go_sem]) rfl ?_
        exact ⟨_, rfl, .inl ⟨_, _, rfl, rfl⟩, HB.out⟩
      · obtain ⟨hmin, rfl, rfl⟩ := hn.some h3 g
        have hg3 : ((ls.length : Int) == 0) = false := by
          rw [beq_eq_false_iff_ne]
          intro e
          exact g (List.length_eq_zero_iff.1 (by omega))
        have HDL := hid (show (dsL s ls).length ≤ 2100 by rw [hdl]; exact hlen)
        have hd9 := dsL_bd hmin.1
        obtain ⟨N, rfl⟩ : ∃ N : Nat, d = (N : Int) := ⟨d.toNat, by omega⟩
        have HYES := hid (near_yes hmin)
        have HNOT := hid (fun k (hk : k < (N : Int)) => near_not hmin hk)
        generalize dsL s ls = ds at *
        have hN9 : N ≤ 9 := by omega
        clear h3 hdl hlen hn hg g hmin hd9
        go_enter Tryd.func16, Tryd.ntmps16
        go_wp2_with fail
        refine HD.out.mono ?_
        rintro e w2 ⟨u, rfl, hu, hb⟩
        obtain ⟨ua, uc, rfl⟩ := hu.shape
        have HU := hid hu
        have HB := hid hb
        clear hb hu
        go_wp2_with fail
        go_loopw [9] (fun t wr => ∃ k : Nat, k ≤ N ∧ t = .int .i64 (k : Int) ∧ Hid (RowI wr (.slice ua ds.length uc) ds) ∧ Hid (Below w.heap.size w wr)) (fun t _ => 9 - (intOf t).toNat)
        case atStart => exact ⟨0, Nat.zero_le _, rfl, HU, HB⟩
        case round =>
          clear HU HB
          obtain ⟨k, hk, rfl, HU, HB⟩ := hrel
          by_cases hlt : k < 9
          · have hlt' : (k : Int) < 9 := by omega
            have HLT := hid hlt
            clear hlt
            by_cases hkN : k < N
            · have HE := hid (HNOT.out (k : Int) (by omega))
              have HKN := hid hkN
              have HC := hid (xupto_any (k : Int) _ ds wr HU.out HDL.out)
              rw [HE.out] at HC
              clear hkN
              go_wp2_with fail
              refine HC.out.mono ?_
              rintro e w4 ⟨u2, rfl, ho, hb⟩
              obtain ⟨xa, xc, rfl⟩ := ownJ_shape ho
              simp only [List.length_nil]
              have HU2 := hid (HU.out.keep hb)
              have HB2 := hid (bstep HB.out HB.out.size hb)
              clear ho hb
              go_wp2_with fail
              go_roundw
              case rel => exact ⟨k + 1, HKN.out, by go_num, HU2, HB2⟩
              case measure => have := HLT.out; simp [intOf]; omega
            · obtain rfl : k = N := by omega
              have HC := hid (xupto_any (k : Int) _ ds wr HU.out HDL.out)
              have hyes : (0 : Int) < ((upQ (k : Int) ds).length : Int) := by have := HYES.out; omega
              go_wp2_with fail
              refine HC.out.mono ?_
              rintro e w4 ⟨u2, rfl, ho, hb⟩
              obtain ⟨xa, xc, rfl⟩ := ownJ_shape ho
              have HO := hid ho
              have HB2 := hid (bstep HB.out HB.out.size hb)
              clear ho hb
              go_wp2_with fail
              refine bodyPost_ret (v := .tuple #[.slice xa (upQ (k : Int) ds).length xc, .int .i64 k, .int .i64 0]) (by simp [results, Tryd.results16, go_sem]) rfl ?_
              exact ⟨_, rfl, HO.out.rowI, HB2.out⟩
          · obtain rfl : k = 9 := by omega
            obtain rfl : N = 9 := by omega
            have HC := hid (xupto_any ((9 : Nat) : Int) _ ds wr HU.out HDL.out)
            go_wp2_with fail
            refine HC.out.mono ?_
            rintro e w4 ⟨u2, rfl, ho, hb⟩
            obtain ⟨xa, xc, rfl⟩ := ownJ_shape ho
            have HO := hid ho
            have HB2 := hid (bstep HB.out HB.out.size hb)
            clear ho hb
            go_wp2_with fail
            refine bodyPost_ret (v := .tuple #[.slice xa (upQ ((9 : Nat) : Int) ds).length xc, .int .i64 ((9 : Nat) : Int), .int .i64 0]) (by simp [results, Tryd.results16, go_sem]) rfl ?_
            exact ⟨_, rfl, HO.out.rowI, HB2.out⟩
end Go.Proofs.YtmhkgpcnefcjaaaDoor
