/- Walks of crossed, Clean, Wrong: contracts. -/
import Derived.Test.YtikjgbfbbkmmcaaQvp
import Derived.Test.YtikjgbfbbkmmcaaQuf
namespace Go.Proofs.Ytikjgbfbbkmmcaa
open Go.RowKit Go.Maps

/-- A set of numbers as a map of bools reads. -/
def setK (s : List Int) : List (Lit × DataW Unit) := s.map fun y => (.int .i64 y, .lit (.bool true))
def setD (s : List Int) : DataW Unit := .map (setK s)
theorem setK_filter (k : Int) : ∀ s : List Int, (setK s).filter (fun p => !p.1.sameKey (.int .i64 k)) = setK (s.filter fun y => decide (y ≠ k))
  | [] => rfl
  | y :: s => by
    have ih := setK_filter k s
    unfold setK at ih ⊢
    rw [List.map_cons, List.filter_cons, List.filter_cons, ih]
    by_cases h : y = k <;> simp [Lit.sameKey, h]
theorem setK_find (k : Int) : ∀ s : List Int, ((setK s).find? fun p => p.1.sameKey (.int .i64 k)) = if k ∈ s then some (.int .i64 k, .lit (.bool true)) else none
  | [] => rfl
  | y :: s => by
    have ih := setK_find k s
    unfold setK at ih ⊢
    rw [List.map_cons, List.find?_cons, ih]
    by_cases h : y = k
    · simp [Lit.sameKey, h]
    · have h2 : ¬ k = y := fun e => h e.symm
      simp [Lit.sameKey, h, h2]
theorem setD_at (s : List Int) (k : Int) : (setD s).atKey (.int .i64 k) (.lit (.bool false)) = .lit (.bool (decide (k ∈ s))) := by
  unfold setD DataW.atKey
  dsimp only
  rw [setK_find]
  by_cases h : k ∈ s <;> simp [h]
theorem setK_insert (k : Int) : ∀ {s : List Int}, s.Pairwise (· < ·) → k ∉ s → DataW.insert (.int .i64 k, .lit (.bool true)) (setK s) = setK (insK k s)
  | [], _, _ => rfl
  | y :: s, hs, hk => by
    have hne : y ≠ k := fun e => hk (by rw [e]; exact List.mem_cons_self)
    obtain ⟨h1, h2⟩ := List.pairwise_cons.1 hs
    by_cases h : k < y
    · have e1 : (y :: s).filter (fun z => decide (z < k)) = [] := by
        rw [List.filter_eq_nil_iff]
        intro z hz
        rcases List.mem_cons.1 hz with rfl | hz
        · simp; omega
        · have := h1 z hz; simp; omega
      have e2 : (y :: s).filter (fun z => decide (k < z)) = y :: s := by
        rw [List.filter_eq_self]
        intro z hz
        rcases List.mem_cons.1 hz with rfl | hz
        · simpa using h
        · have := h1 z hz; simp; omega
      unfold insK
      rw [e1, e2]
      simp [setK, DataW.insert, Lit.before, h]
    · have ih := setK_insert k h2 (fun e => hk (List.mem_cons_of_mem _ e))
      have hy : y < k := by omega
      have e : insK k (y :: s) = y :: insK k s := by
        unfold insK
        rw [List.filter_cons, List.filter_cons, if_pos (by simpa using hy), if_neg (by simpa using Int.le_of_lt hy)]
        rfl
      rw [e]
      show DataW.insert _ ((Lit.int .i64 y, DataW.lit (Lit.bool true)) :: setK s) = (Lit.int .i64 y, DataW.lit (Lit.bool true)) :: setK (insK k s)
      rw [← ih]
      simp [DataW.insert, Lit.before, h]
theorem setD_put {s : List Int} {k : Int} (hs : s.Pairwise (· < ·)) (hk : k ∉ s) : (setD s).put (.int .i64 k) (.lit (.bool true)) = setD (insK k s) := by
  unfold setD DataW.put
  dsimp only
  rw [setK_filter, List.filter_eq_self.2 (fun y hy => by simp; rintro rfl; exact hk hy), setK_insert k hs hk]
theorem setD_del (s : List Int) (k : Int) : (setD s).del (.int .i64 k) = setD (s.filter fun y => decide (y ≠ k)) := by
  unfold setD DataW.del
  dsimp only
  rw [setK_filter]
theorem setD_size (s : List Int) : size (setD s) = s.length := by
  show (setK s).length = _
  simp [setK]
/-- A map that holds a set. -/
def MapS (w : World) (b n : Nat) (s : List Int) : Prop := w.ownsMap Try.prog 3 (plainElem Try.prog 4) b n (setD s)
theorem MapS.keep {w w' : World} {b n : Nat} {s : List Int} (h : MapS w b n s) (hb : Below w.heap.size w w') : MapS w' b n s :=
  World.ownsMap.kept h (row := none) ⟨hb.os, hb.tape, hb.output, hb.size, fun k hk _ => hb.block k hk⟩ (by simp)
theorem MapS.more {w : World} {b n : Nat} {s : List Int} (h : MapS w b n s) : MapS w b (n + 1) s := by
  obtain ⟨es, clock, h1, h2, h3, h4⟩ := h
  exact ⟨es, clock, h1, h2, Nat.le_succ_of_le h3, h4⟩
/-- What crossed hands back. -/
def CrsP (l : List Int) (w : World) (e : Ending) (w' : World) : Prop :=
  ∃ b n s, e = .returned (.tuple #[.map (some b), .int .i64 (wrgK l)]) ∧ n ≤ l.length ∧ MapS w' b n s ∧ (wrgK l < 0 ↔ crsK l l.length = some s) ∧ s.Pairwise (· < ·) ∧ w.heap.size ≤ b ∧ Below w.heap.size w w' ∧ -1 ≤ wrgK l
theorem wrgK_bd {l : List Int} : ∀ {k : Nat}, k < l.length → crsK l k ≠ none → crsK l (k + 1) = none → wrgK l = (k : Int) ∧ ∀ s, ¬ crsK l l.length = some s := fun {k} hk h hn => by
  cases hs : crsK l k with
  | none => exact absurd hs h
  | some s0 =>
    refine ⟨wrgK_at hk hs hn, fun s e => ?_⟩
    have := crsK_ok l e (k + 1) (by omega)
    rw [hn] at this
    cases this
theorem wpList_wanted' {P : Program} {ops : Array Oper} {Q : Exit → Act → World → Prop} {o : Oper} {rest : List Oper} {a : Act} {w : World} (hw : Region.wanted o (yielded ops a.tmps) = true) (h : wpList P ops Q ({ o with guard := none } :: rest) a w) : wpList P ops Q (o :: rest) a w := by
  unfold wpList at h ⊢
  rw [if_pos hw]
  rw [if_pos (by simp [Region.wanted])] at h
  exact h
set_option maxRecDepth 20000 in
set_option maxHeartbeats 8000000 in
theorem crossed_any (v : Value) (l : List Int) (w : World) (hr : RowI w v l) (hb : ∀ x ∈ l, -9223372036854775808 ≤ x ∧ x ≤ 9223372036854775807) (hf : l.length ≤ 1000000) : Calls Try.prog 62 #[v] w (CrsP l w) := by
  have HR := hid (fun w1 (g : Below w.heap.size w w1) => hr.keep g)
  have HBD := hid hb
  obtain ⟨va, vc, rfl⟩ := hr.shape
  obtain ⟨n, hn⟩ : ∃ n, n = l.length := ⟨_, rfl⟩
  have HN := hid hn
  have hmm := @run_makeMap Try.prog
  have HM0 : Hid (MapS (w.alloc (.map #[] 0)) w.heap.size 0 []) := World.ownsMap_made _ _ _ _
  have HB0 := hid ((Below.refl w.heap.size w).alloc (Nat.le_refl _) (.map #[] 0))
  obtain ⟨b, hbb⟩ : ∃ b, b = w.heap.size := ⟨_, rfl⟩
  have HBB := hid hbb
  rw [← hbb] at HM0
  rw [← hn] at hf HR ⊢
  clear hr hn hb
  go_enter Try.func62, Try.ntmps62
  go_wp2_with fail
  rw [← HBB.out]
  clear hbb
  go_loopw [2, 9] (fun mm t wr => ∃ (k : Nat) (s : List Int), mm = .map (some b) ∧ k ≤ n ∧ t = .int .i64 (k : Int) ∧ Hid (crsK l k = some s ∧ (∀ y ∈ s, 0 < y ∧ y ≤ 9223372036854775807) ∧ MapS wr b k s ∧ Below w.heap.size w wr)) (fun _ t _ => n - (intOf t).toNat)
  case atStart => exact ⟨0, [], rfl, Nat.zero_le _, rfl, rfl, (fun y h => by cases h), HM0.out, HB0.out⟩
  case round =>
    obtain ⟨k, s, rfl, hk, rfl, hR⟩ := hrel
    by_cases hlt : k < n
    · have hlt' : (k : Int) < n := by omega
      have hks : k < l.length := by rw [← HN.out]; exact hlt
      obtain ⟨b0, o0, hva, c0⟩ := rowI_get (k := k) (HR.out _ hR.out.2.2.2) (by rw [HN.out]) hks
      subst hva
      have HCK := hid (show crsK l (k + 1) = crsT s (l.getD k 0) from by rw [crsK, hR.out.1])
      have hgd : l.getD k 0 = l[k] := by simp [List.getD, hks]
      have hbd := HBD.out _ (List.getElem_mem hks)
      have HIV := hid (crsK_inv l hR.out.1)
      rw [hgd] at HCK
      generalize l[k] = x at *
      have HLT := hid hlt
      have HKS := hid hks
      have HBAD := hid (fun (h : crsT s x = none) => wrgK_bd hks (by rw [hR.out.1]; simp) (by rw [HCK.out, h]))
      have HBL : Hid (w.heap.size ≤ b) := by show w.heap.size ≤ b; rw [HBB.out]; exact Nat.le_refl _
      have hkb : (Lit.int .i64 x).wf = true := WalkArith.wf_i64 hbd
      have HK := hid (key_anyB hkb)
      have HAT := hid (setD_at s x)
      clear hlt hks hgd
      rcases Int.lt_trichotomy x 0 with hx | hx | hx
      · have hx1 : ¬ 0 < x := by omega
        obtain ⟨y, hy⟩ : ∃ y, y = wrap64 (-x) := ⟨_, rfl⟩
        have hyw : (Lit.int .i64 y).wf = true := by rw [hy]; exact wrap64_wf _
        have HKY := hid (key_anyB hyw)
        have HAY := hid (setD_at s y)
        have hmy : y ∈ s ↔ -x ∈ s := by
          by_cases e : x = -9223372036854775808
          · have : y = -9223372036854775808 := by rw [hy, e]; unfold wrap64; omega
            constructor
            · intro h; have := (hR.out.2.1 y h).1; omega
            · intro h; have := (hR.out.2.1 _ h).2; omega
          · have : y = -x := by rw [hy]; unfold wrap64; omega
            rw [this]
        have hyx : -x ∈ s → y = -x := fun h => by
          have h1 := (hR.out.2.1 _ h).2
          rw [hy]
          unfold wrap64
          omega
        subst hy
        clear hyw
        by_cases hm : -x ∈ s
        · have HYX := hid (hyx hm)
          have HD := hid (show decide (wrap64 (-x) ∈ s) = true from decide_eq_true (hmy.2 hm))
          have HST := hid (show crsT s x = some (s.filter fun z => decide (z ≠ wrap64 (-x))) by unfold crsT; rw [if_neg hx1, if_pos ⟨hx, hm⟩, HYX.out])
          have HDE := hid (setD_del s (wrap64 (-x)))
          clear hm hmy hyx
          go_wp2_with (first
            | (at_lookup; refine wpList_wanted' rfl ?_; refine wpList_lookup_own_bool _ rfl _ _ 76 rfl 3 4 law_intB Try.underlying76 Try.underlying4 (zero_boolB _) b k (setD s) rfl hR.out.2.2.1 _ _ rfl HKY.out ?_; intro c hat; obtain rfl : c = true := (by have h := hat.symm.trans HAY.out; rw [HD.out] at h; simpa using h); clear hat)
            | (at_delete; refine wpList_delete_own _ rfl _ _ 76 3 rfl 4 law_intB Try.underlying76 _ b k (setD s) rfl hR.out.2.2.1 _ _ rfl HKY.out ?_; intro w4 hown4 hturn4; rw [HDE.out] at hown4; have HM4 := hid hown4; have HB4 := hid (hR.out.2.2.2.grown hturn4.grown hR.out.2.2.2.size (fun j e => by cases e; exact HBL.out)); clear hown4 hturn4))
          go_roundw
          case rel => exact ⟨k + 1, s.filter fun z => decide (z ≠ wrap64 (-x)), rfl, HLT.out, by go_num, by rw [HCK.out, HST.out], fun z hz => hR.out.2.1 z (List.mem_filter.1 hz).1, MapS.more HM4.out, HB4.out⟩
          case measure => have := HLT.out; simp [intOf]; omega
        · have HD := hid (show decide (wrap64 (-x) ∈ s) = false from decide_eq_false (fun h => hm (hmy.1 h)))
          have HBD2 := hid (HBAD.out (by unfold crsT; rw [if_neg hx1, if_neg (fun h => hm h.2)]))
          clear hm hmy hyx
          go_wp2_with (at_lookup; refine wpList_wanted' rfl ?_; refine wpList_lookup_own_bool _ rfl _ _ 76 rfl 3 4 law_intB Try.underlying76 Try.underlying4 (zero_boolB _) b k (setD s) rfl hR.out.2.2.1 _ _ rfl HKY.out ?_; intro c hat; obtain rfl : c = false := (by have h := hat.symm.trans HAY.out; rw [HD.out] at h; simpa using h); clear hat)
          go_ret2
          exact ⟨b, k, s, by rw [HBD2.out.1]; rfl, by rw [← HN.out]; exact Nat.le_of_lt HLT.out, hR.out.2.2.1, ⟨fun h => by have := HBD2.out.1; omega, fun h => absurd h (HBD2.out.2 s)⟩, HIV.out.1, HBL.out, hR.out.2.2.2, by have := HBD2.out.1; omega⟩
      · subst hx
        have hx1 : ¬ (0 : Int) < 0 := by omega
        have HBD2 := hid (HBAD.out (by unfold crsT; rw [if_neg (by omega), if_neg (fun h => by omega)]))
        go_wp2
        go_ret2
        exact ⟨b, k, s, by rw [HBD2.out.1]; rfl, by rw [← HN.out]; exact Nat.le_of_lt HLT.out, hR.out.2.2.1, ⟨fun h => by have := HBD2.out.1; omega, fun h => absurd h (HBD2.out.2 s)⟩, HIV.out.1, HBL.out, hR.out.2.2.2, by have := HBD2.out.1; omega⟩
      · have hx1 : ¬ x < 0 := by omega
        have hx0 : 0 < x := hx
        clear hx
        by_cases hm : x ∈ s
        · have HBD2 := hid (HBAD.out (by unfold crsT; rw [if_pos hx0, if_pos hm]))
          have HD := hid (show decide (x ∈ s) = true from decide_eq_true hm)
          clear hm
          go_wp2_with (at_lookup; refine wpList_wanted' rfl ?_; refine wpList_lookup_own_bool _ rfl _ _ 76 rfl 3 4 law_intB Try.underlying76 Try.underlying4 (zero_boolB _) b k (setD s) rfl hR.out.2.2.1 _ _ rfl HK.out ?_; intro c hat; obtain rfl : c = true := (by have h := hat.symm.trans HAT.out; rw [HD.out] at h; simpa using h); clear hat)
          go_ret2
          exact ⟨b, k, s, by rw [HBD2.out.1]; rfl, by rw [← HN.out]; exact Nat.le_of_lt HLT.out, hR.out.2.2.1, ⟨fun h => by have := HBD2.out.1; omega, fun h => absurd h (HBD2.out.2 s)⟩, HIV.out.1, HBL.out, hR.out.2.2.2, by have := HBD2.out.1; omega⟩
        · have HD := hid (show decide (x ∈ s) = false from decide_eq_false hm)
          have HST := hid (show crsT s x = some (insK x s) by unfold crsT; rw [if_pos hx0, if_neg hm])
          have HPU := hid (setD_put HIV.out.1 hm)
          have HME := hid (fun y => insK_mem (z := y) hm)
          have HX1 := hid (And.intro hx0 hbd.2)
          clear hm
          go_wp2_with (first
            | (at_lookup; refine wpList_wanted' rfl ?_; refine wpList_lookup_own_bool _ rfl _ _ 76 rfl 3 4 law_intB Try.underlying76 Try.underlying4 (zero_boolB _) b k (setD s) rfl hR.out.2.2.1 _ _ rfl HK.out ?_; intro c hat; obtain rfl : c = false := (by have h := hat.symm.trans HAT.out; rw [HD.out] at h; simpa using h); clear hat)
            | (at_mapUpdate; refine wpList_mapUpdate_own _ rfl _ _ _ 76 rfl 3 4 law_intB Try.underlying76 _ b k (setD s) rfl hR.out.2.2.1 (by have := HLT.out; unfold maxLen; omega) _ _ _ rfl rfl HK.out _ [] (plainElem_bool Try.underlying4 true) ?_; intro w4 hown4 hgrow4; rw [HPU.out] at hown4; have HM4 := hid hown4; have HB4 := hid (hR.out.2.2.2.grown hgrow4 hR.out.2.2.2.size (fun j e => by cases e; exact HBL.out)); clear hown4 hgrow4))
          go_roundw
          case rel => exact ⟨k + 1, insK x s, rfl, HLT.out, by go_num, by rw [HCK.out, HST.out], fun y hy => by rcases (HME.out y).1 hy with rfl | h; exact HX1.out; exact hR.out.2.1 y h, HM4.out, HB4.out⟩
          case measure => have := HLT.out; simp [intOf]; omega
    · obtain rfl : k = n := by omega
      have HE : Hid (crsK l l.length = some s) := by show _ = _; rw [← HN.out]; exact hR.out.1
      have HW := hid (wrgK_no HE.out)
      have HIV := hid (crsK_inv l HE.out)
      have HBL : Hid (w.heap.size ≤ b) := by show w.heap.size ≤ b; rw [HBB.out]; exact Nat.le_refl _
      go_wp2
      go_ret2
      exact ⟨b, k, s, by rw [HW.out]; rfl, by rw [← HN.out]; exact Nat.le_refl _, hR.out.2.2.1, ⟨fun _ => HE.out, fun _ => by rw [HW.out]; decide⟩, HIV.out.1, HBL.out, hR.out.2.2.2, by rw [HW.out]; decide⟩
end Go.Proofs.Ytikjgbfbbkmmcaa
