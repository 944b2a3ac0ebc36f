/- Maps of bools of the call's own; the walk of distinct: contract. -/
import Derived.Test.YtikjgbfbbkmmcaaQvm
import Derived.Test.YtikjgbfbbkmmcaaBm
import Derived.Maps.OwnSet
import Derived.Maps.Views
namespace Go.Proofs.Ytikjgbfbbkmmcaa
open Go.RowKit Go.Maps

theorem law_intB : Keyed Try.prog 3 := int_keyed Try.underlying3
theorem zero_boolB (w : World) : (zeroValue 4).run Try.prog w = .ok (.bool false) w := by kernel_rfl
theorem key_anyB {t : Int} (h : (Lit.int .i64 t).wf = true) : keyOf Try.prog 3 (.int .i64 t) = some (.int .i64 t) := keyOf_int_mk Try.underlying3 h
theorem key_intB {t : Int} (h1 : -9000000000000000000 ≤ t) (h2 : t ≤ 9000000000000000000) : keyOf Try.prog 3 (.int .i64 t) = some (.int .i64 t) := keyOf_int_mk Try.underlying3 (WalkArith.wf_i64 (by omega))
/-- A map of bools of the call's own. -/
def MapB (w : World) (b n : Nat) (f : Int → Bool) : Prop := ∃ D : DataW Unit, w.ownsMap Try.prog 3 (plainElem Try.prog 4) b n D ∧ ∀ h : Int, D.atKey (.int .i64 h) (.lit (.bool false)) = .lit (.bool (f h))
theorem mapB_new (w : World) : MapB (w.alloc (.map #[] 0)) w.heap.size 0 (fun _ => false) := ⟨.map [], World.ownsMap_made _ _ _ _, fun _ => rfl⟩
theorem MapB.keep {w w' : World} {b n : Nat} {f : Int → Bool} (h : MapB w b n f) (hb : Below w.heap.size w w') : MapB w' b n f := by
  obtain ⟨D, h1, h2⟩ := h
  exact ⟨D, h1.kept (row := none) ⟨hb.os, hb.tape, hb.output, hb.size, fun k hk _ => hb.block k hk⟩ (by simp), h2⟩
theorem MapB.lt {w : World} {b n : Nat} {f : Int → Bool} (h : MapB w b n f) : b < w.heap.size := by
  obtain ⟨D, h1, _⟩ := h
  exact h1.lt
theorem mapB_put {w w' : World} {b n : Nat} {f g : Int → Bool} {D : DataW Unit} {k : Int} {c : Bool} (h0 : w.ownsMap Try.prog 3 (plainElem Try.prog 4) b n D) (h2 : ∀ h : Int, D.atKey (.int .i64 h) (.lit (.bool false)) = .lit (.bool (f h)))
    (h : w'.ownsMap Try.prog 3 (plainElem Try.prog 4) b (n + 1) (D.put (.int .i64 k) (.lit (.bool c)))) (hg : ∀ h, g h = if h = k then c else f h) : MapB w' b (n + 1) g := by
  refine ⟨_, h, fun q => ?_⟩
  rw [hg q]
  by_cases e : q = k
  · subst e
    rw [if_pos rfl]
    exact atKey_put_same h0.isMap (by constructor) _ _
  · rw [if_neg e, atKey_put_other (by intro he; injection he with _ he; exact e he)]
    exact h2 q
/-- Which numbers the first k have. -/
def numF (l : List Bsk) (k : Nat) (h : Int) : Bool := (l.take k).any fun b => decide (b.nu = h)
theorem num_next {l : List Bsk} {k : Nat} (hk : k < l.length) (h : Int) : numF l (k + 1) h = if h = l[k].nu then true else numF l k h := by
  unfold numF
  rw [List.take_succ_eq_append_getElem hk, List.any_append]
  by_cases e : h = l[k].nu
  · rw [if_pos e]; simp [e]
  · rw [if_neg e]; simp [Ne.symm e]
set_option maxRecDepth 20000 in
set_option maxHeartbeats 4000000 in
theorem distinct_any (v : Value) (l : List Bsk) (w : World) (hr : RowE encB w v l) (hn : ∀ x ∈ l, 1 ≤ x.nu ∧ x.nu ≤ 1000000) (hf : l.length ≤ 1000000) : Calls Try.prog 37 #[v] w fun e w' => e = .returned (.bool (dstQ l)) ∧ Below w.heap.size w w' := by
  have HR := hid (fun w1 (g : Below w.heap.size w w1) => hr.keep g)
  have HNU := hid hn
  have hm := hr.most
  unfold maxLen at hm
  obtain ⟨va, vc, rfl⟩ := hr.shape
  obtain ⟨n, hn⟩ : ∃ n, n = l.length := ⟨_, rfl⟩
  have HN := hid hn
  have hmm := @run_makeMap Try.prog
  have HM0 := hid (mapB_new w)
  have HB0 := hid ((Below.refl w.heap.size w).alloc (Nat.le_refl _) (.map #[] 0))
  obtain ⟨b, hbb⟩ : ∃ b, b = w.heap.size := ⟨_, rfl⟩
  have HBB := hid hbb
  rw [← hbb] at HM0
  rw [← hn] at hm hf HR ⊢
  clear hr hn
  go_enter Try.func37, Try.ntmps37
  go_wp2_with fail
  rw [← HBB.out]
  clear hbb
  go_loopw [9] (fun t wr => ∃ k : Nat, k ≤ n ∧ t = .int .i64 (k : Int) ∧ Hid (MapB wr b k (numF l k)) ∧ Hid ((l.take k).Pairwise fun x y => x.nu ≠ y.nu) ∧ Hid (Below w.heap.size w wr)) (fun t _ => n - (intOf t).toNat)
  case atStart => exact ⟨0, Nat.zero_le _, rfl, (by obtain ⟨D, h1, h2⟩ := HM0.out; exact ⟨D, h1, fun h => by rw [h2 h]; rfl⟩), List.Pairwise.nil, HB0⟩
  case round =>
    obtain ⟨k, hk, rfl, hM, hP, hB⟩ := hrel
    by_cases hlt : k < n
    · have hlt' : (k : Int) < n := by omega
      have hks : k < l.length := by rw [← HN.out]; exact hlt
      obtain ⟨b0, o, hva, c0, c1, c2, c3⟩ := (HR.out _ hB.out).bsk hks
      subst hva
      have HNX := hid (num_next hks)
      have HDS := hid (dst_step hks)
      have hxn := HNU.out _ (List.getElem_mem hks)
      have HK := hid (key_intB (t := l[k].nu) (by omega) (by omega))
      generalize l[k] = x at *
      obtain ⟨nu, ca, pr, cn⟩ := x
      dsimp only at c0 c1 c2 c3 HNX HDS HK
      have HB1 := hid (hB.out.alloc hB.out.size (.cells #[.int .i64 nu, .int .i64 ca, .string pr, .int .i64 cn] 55))
      obtain ⟨D, hown, hat⟩ := (hM.out.keep ((Below.refl wr.heap.size wr).alloc (Nat.le_refl _) (.cells #[.int .i64 nu, .int .i64 ca, .string pr, .int .i64 cn] 55)))
      have HOW := hid hown; have HAT := hid hat
      have HLT := hid hlt
      have HBL : Hid (b < wr.heap.size) := hM.out.lt
      clear hlt hown hat hxn hks
      cases hnum : numF l k nu
      · have HNM := hid hnum
        clear hnum
        go_wp2_with (first
          | (at_lookup; refine wpList_lookup_own_bool _ rfl _ _ 76 rfl 3 4 law_intB Try.underlying76 Try.underlying4 (zero_boolB _) b k D rfl HOW.out _ _ rfl HK.out ?_; intro c hat; obtain rfl : c = false := (by have h := hat.symm.trans (HAT.out nu); rw [HNM.out] at h; simpa using h); clear hat)
          | (at_mapUpdate; refine wpList_mapUpdate_own _ rfl _ _ _ 76 rfl 3 4 law_intB Try.underlying76 _ b k D rfl HOW.out (by have := HLT.out; unfold maxLen; omega) _ _ _ rfl rfl HK.out _ [] (plainElem_bool Try.underlying4 true) ?_; intro w4 hown4 hgrow4; have HM4 := hid (mapB_put (g := numF l (k + 1)) HOW.out HAT.out hown4 HNX.out); have HB4 := hid (HB1.out.grown hgrow4 HB1.out.size (fun j e => by cases e; rw [HBB.out]; exact Nat.le_refl _)); clear hown4 hgrow4))
        go_roundw
        case rel => exact ⟨k + 1, HLT.out, by go_num, HM4, HDS.out.2 ⟨hP.out, HNM.out⟩, HB4⟩
        case measure => have := HLT.out; simp [intOf]; omega
      · have HNM := hid hnum
        clear hnum
        go_wp2_with (at_lookup; refine wpList_lookup_own_bool _ rfl _ _ 76 rfl 3 4 law_intB Try.underlying76 Try.underlying4 (zero_boolB _) b k D rfl HOW.out _ _ rfl HK.out ?_; intro c hat; obtain rfl : c = true := (by have h := hat.symm.trans (HAT.out nu); rw [HNM.out] at h; simpa using h); clear hat)
        go_ret
        refine ⟨ret_bool ?_, HB1.out⟩
        symm
        unfold dstQ
        rw [decide_eq_false_iff_not]
        intro hp
        have h2 := (HDS.out.1 (dst_beg (k + 1) hp)).2
        have h3 := HNM.out
        unfold numF at h3
        rw [h3] at h2
        cases h2
    · obtain rfl : k = n := by omega
      have HD : Hid (dstQ l = true) := by
        have h := hP.out
        rw [HN.out, List.take_length] at h
        show dstQ l = true
        unfold dstQ
        exact decide_eq_true h
      go_wp2
      go_ret
      exact ⟨ret_bool HD.out.symm, hB.out⟩
end Go.Proofs.Ytikjgbfbbkmmcaa
