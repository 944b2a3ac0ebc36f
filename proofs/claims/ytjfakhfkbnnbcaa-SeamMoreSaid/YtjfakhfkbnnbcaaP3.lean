/- Texts of this seat, one behind the other. -/
import Derived.Test.YtjfakhfkbnnbcaaP1
import Derived.Deep.QuietTactic
import Derived.Test.YtjfakhfkbnnbcaaOv
/- A region that draws its order, whose operations only read, and whose callees read and may make memory of their own: one walk, in the order of the text. No seat's names. -/
namespace Go.Proofs.Ytjfakhfkbnnbcaa
open Go.RowKit

/-- A world in which all that lay in w lies as it was. -/
structure LowBy (w : World) where
  W : World
  low : Below w.heap.size w W
instance (w : World) : Inhabited (LowBy w) := ⟨⟨w, Below.refl _ _⟩⟩
section
variable {P : Program}
theorem wp_region_quiet_low {id : Nat} {Q : Exit → Act → World → Prop} {a : Act} {w : World} {l : List Oper} (hm : P.follows .mixedOrders = true) (hB : Region.lexB .any l.toArray = true)
    (h : wpQuiet P l.toArray (fun w' => ∃ p : LowBy w, w' = p.W) (fun a' => ∀ w', (∃ p : LowBy w, w' = p.W) → Q .normal a' w') l a) : (Code.region id l.toArray true).wp P Q a w :=
  wp_region_quiet (C := fun w' => ∃ p : LowBy w, w' = p.W) hm hB ⟨⟨w.drew, (Below.refl _ _).drew⟩, rfl⟩ (by simpa using h)
/-- The list of what is left behind a letter: else what is behind a guard that is not wanted is opened again and again. -/
theorem wp_region_low {id : Nat} {Q : Exit → Act → World → Prop} {a : Act} {w : World} {l : List Oper} (hm : P.follows .mixedOrders = true) (hB : Region.lexB .any l.toArray = true)
    (h : ∀ R, Hid (R = l) → wpQuiet P l.toArray (fun w' => ∃ p : LowBy w, w' = p.W) (fun a' => ∀ w', (∃ p : LowBy w, w' = p.W) → Q .normal a' w') R a) : (Code.region id l.toArray true).wp P Q a w :=
  wp_region_quiet_low hm hB (h l rfl)
theorem low_step {ops : Array Oper} {C : World → Prop} {Q : Act → Prop} {a : Act} {o : Oper} {R rest : List Oper} (hR : Hid (R = o :: rest))
    (h : ∀ R' : List Oper, Hid (R' = rest) → ∀ K : Act → Prop, (∀ a, wpQuiet P ops C Q R' a → K a) → if Region.wanted o (yielded ops a.tmps) then o.quiet P a C K else K (a.put o.dst undef)) : wpQuiet P ops C Q R a := by
  rw [hR.out]
  exact wpQuiet_step (h rest rfl)
theorem low_nil {ops : Array Oper} {C : World → Prop} {Q : Act → Prop} {a : Act} {R : List Oper} (hR : Hid (R = [])) (h : Q a) : wpQuiet P ops C Q R a := by
  rw [hR.out]
  exact wpQuiet_nil h
theorem low_of {f : FuncId} {args : Array Value} {w : World} {p : LowBy w} {v : Value}
    (h : Calls P f args p.W fun e w' => e = .returned v ∧ Below p.W.heap.size p.W w') : Calls P f args p.W fun e w'' => e = .returned v ∧ ∃ q : LowBy w, w'' = q.W :=
  h.mono fun _ w' ⟨he, hb⟩ => ⟨he, ⟨w', bstep p.low p.low.size hb⟩, rfl⟩
theorem low_of_same {f : FuncId} {args : Array Value} {w : World} {p : LowBy w} {v : Value}
    (h : Calls P f args p.W fun e w' => e = .returned v ∧ p.W = w') : Calls P f args p.W fun e w'' => e = .returned v ∧ ∃ q : LowBy w, w'' = q.W :=
  h.mono fun _ _ ⟨he, hb⟩ => ⟨he, p, hb.symm⟩
theorem low_cell {w : World} {b i : Nat} {v : Value} (h : w.cell? ⟨b, i, none⟩ = some v) (p : LowBy w) : p.W.cell? ⟨b, i, none⟩ = some v := keep_cell p.low h
end
end Go.Proofs.Ytjfakhfkbnnbcaa

/- Walk of ValidSheets: contract. -/
namespace Go.Proofs.Ytjfakhfkbnnbcaa
open Go.RowKit

theorem low_sheet {w : World} {b o : Nat} {x : Sh} (h : ShAt w b o x) (p : LowBy w) : ShAt p.W b o x := h.keep p.low
set_option maxRecDepth 20000 in
set_option maxHeartbeats 8000000 in
theorem ksheets_any (v : Value) (l : List Sh) (w : World) (hr : RowH w v l) : Calls Try.prog 28 #[v] w fun e w' => e = .returned (.bool (shsB l)) ∧ Below w.heap.size w w' := by
  have HR := hid (fun w1 (g : Below w.heap.size w w1) => hr.keep g)
  have hm := hr.most
  unfold maxLen at hm
  obtain ⟨va, vc, rfl⟩ := hr.shape
  obtain ⟨n, hn⟩ : ∃ n, n = l.length := ⟨_, rfl⟩
  have HN := hid hn
  rw [← hn] at hm HR ⊢
  clear hr hn
  by_cases h5 : n ≤ 500
  case neg =>
    have HE := hid (shsB_many (l := l) (by rw [← HN.out]; omega))
    have h5' : (500 : Int) < n := by omega
    clear h5
    go_enter Try.func28, Try.ntmps28
    go_wp2
    go_ret
    exact ⟨ret_bool HE.out.symm, Below.refl _ _⟩
  have h5' : ¬ (500 : Int) < n := by omega
  go_enter Try.func28, Try.ntmps28
  go_wp2
  go_loopw [10] (fun t wr => ∃ k : Nat, k ≤ n ∧ t = .int .i64 (k : Int) ∧ Hid (∀ j, j < k → oneS l j = true) ∧ Hid (Below w.heap.size w wr)) (fun t _ => n - (intOf t).toNat)
  case atStart => exact ⟨0, Nat.zero_le _, rfl, fun j h => absurd h (Nat.not_lt_zero j), Below.refl _ _⟩
  case round =>
    obtain ⟨k, hk, rfl, hok, hB⟩ := hrel
    by_cases hlt : k < n
    · have hlt' : (k : Int) < n := by omega
      have hkl : k < l.length := by rw [← HN.out]; exact hlt
      obtain ⟨b, o, hva, hat⟩ := (HR.out _ hB.out).get (by omega)
      subst hva
      obtain ⟨x, hx⟩ : ∃ x, x = l[k] := ⟨_, rfl⟩
      have hak := hat k hkl
      rw [← hx] at hak
      obtain ⟨c0, c1, c2, c3, c4, c5, c6, c7, c8, c9⟩ := hak
      have HGX := hid (show l.getD k shD = x by rw [hx]; simp [List.getD, hkl])
      have HKL := hid hkl
      have HST := hid (fun h => all_step (p := oneS l) (k := k) hok.out h)
      have HBAD := hid (fun h => shsB_bad hkl h)
      have HLT := hid hlt
      have HAT := hid (fun w1 (g : Below wr.heap.size wr w1) k (hk : k < l.length) => (hat k hk).keep g)
      have HBX := hid (boxS_new wr x)
      have HB1 := hid (hB.out.alloc hB.out.size (.cells #[.int .i64 x.tk, .int .i64 x.hd, .int .i64 x.bh, .int .i64 x.ch, .int .i64 x.ht, .int .i64 x.ep, .int .i64 x.bp, .int .i64 x.wr, .int .i64 x.th, .int .i64 x.cs] 39))
      have HW1 := hid ((Below.refl wr.heap.size wr).alloc (Nat.le_refl _) (.cells #[.int .i64 x.tk, .int .i64 x.hd, .int .i64 x.bh, .int .i64 x.ch, .int .i64 x.ht, .int .i64 x.ep, .int .i64 x.bp, .int .i64 x.wr, .int .i64 x.th, .int .i64 x.cs] 39))
      clear hlt hx hat hkl
      go_wp2
      clear c0 c1 c2 c3 c4 c5 c6 c7 c8 c9
      generalize hWW : World.alloc wr _ = W1
      have HBX : Hid (BoxS W1 wr.heap.size x) := by rw [← hWW]; exact HBX
      have HB1 : Hid (Below w.heap.size w W1) := by rw [← hWW]; exact HB1
      have HW1 : Hid (Below wr.heap.size wr W1) := by rw [← hWW]; exact HW1
      clear hWW
      have hp := fun p : LowBy W1 => HBX.out.keep p.low
      obtain ⟨p0, p1, p2, p3, p4, p5, p6, p7, p8, p9⟩ : _ ∧ _ ∧ _ ∧ _ ∧ _ ∧ _ ∧ _ ∧ _ ∧ _ ∧ _ := ⟨fun p => (hp p).1, fun p => (hp p).2.1, fun p => (hp p).2.2.1, fun p => (hp p).2.2.2.1, fun p => (hp p).2.2.2.2.1, fun p => (hp p).2.2.2.2.2.1, fun p => (hp p).2.2.2.2.2.2.1, fun p => (hp p).2.2.2.2.2.2.2.1, fun p => (hp p).2.2.2.2.2.2.2.2.1, fun p => (hp p).2.2.2.2.2.2.2.2.2⟩
      clear hp
      obtain ⟨B, hs⟩ : ∃ B, shB x = B := ⟨_, rfl⟩
      have HS := hid hs
      have hcs := fun p : LowBy W1 => low_of (ksheet_any x p.W)
      rw [hs] at hcs
      clear hs
      rcases k with _ | j
      · have HE1 := hid (fun (h : B = true) => HST.out (by rw [one_first HGX.out, HS.out, h]))
        have HE2 := hid (fun (h : B = false) => HBAD.out (by rw [one_first HGX.out, HS.out, h]))
        cases B
        · have HE := hid (HE2.out rfl)
          refine wp_region_low (by kernel_rfl) (by kernel_rfl) (fun R hR => ?_)
          repeat (refine low_step (by assumption) ?_; intro R hR K hK; go_simp; first | (refine hK _ ?_; clear hK K) | (apply Exists.intro; refine ⟨fun _ => ?_, hK _ ?_⟩; (go_at_call 52; exact hcs _); clear hK K))
          refine low_nil (by assumption) ?_; intro _ hw'; obtain ⟨⟨wq, hlow⟩, hw''⟩ := hw'; subst hw''; have HLOW := hid hlow; clear hlow; (try simp only)
          have HB2 := hid (bstep HB1.out HB1.out.size HLOW.out)
          go_wp2
          go_ret
          exact ⟨ret_bool HE.out.symm, HB2.out⟩
        · have HE := hid (HE1.out rfl)
          refine wp_region_low (by kernel_rfl) (by kernel_rfl) (fun R hR => ?_)
          repeat (refine low_step (by assumption) ?_; intro R hR K hK; go_simp; first | (refine hK _ ?_; clear hK K) | (apply Exists.intro; refine ⟨fun _ => ?_, hK _ ?_⟩; (go_at_call 52; exact hcs _); clear hK K))
          refine low_nil (by assumption) ?_; intro _ hw'; obtain ⟨⟨wq, hlow⟩, hw''⟩ := hw'; subst hw''; have HLOW := hid hlow; clear hlow; (try simp only)
          have HB2 := hid (bstep HB1.out HB1.out.size HLOW.out)
          go_wp2
          go_roundw
          case rel => exact ⟨1, HLT.out, rfl, HE, HB2⟩
          case measure => have := HLT.out; simp [intOf]; omega
      · have hjl : j < l.length := by have := HKL.out; omega
        obtain ⟨y, hy⟩ : ∃ y, y = l[j] := ⟨_, rfl⟩
        have HGY := hid (show l.getD j shD = y by rw [hy]; simp [List.getD, hjl])
        have hq := fun p : LowBy W1 => show ShAt p.W b (o + j * 10) y by rw [hy]; exact HAT.out p.W (bstep HW1.out HW1.out.size p.low) j hjl
        obtain ⟨q0, q1, q2, q3, q4, q5, q6, q7, q8, q9⟩ : _ ∧ _ ∧ _ ∧ _ ∧ _ ∧ _ ∧ _ ∧ _ ∧ _ ∧ _ := ⟨fun p => (hq p).1, fun p => (hq p).2.1, fun p => (hq p).2.2.1, fun p => (hq p).2.2.2.1, fun p => (hq p).2.2.2.2.1, fun p => (hq p).2.2.2.2.2.1, fun p => (hq p).2.2.2.2.2.2.1, fun p => (hq p).2.2.2.2.2.2.2.1, fun p => (hq p).2.2.2.2.2.2.2.2.1, fun p => (hq p).2.2.2.2.2.2.2.2.2⟩
        have hj1 : IntKind.i64.wrap (j : Int) = (j : Int) := IntWalk.i64_in _ ⟨by omega, by omega⟩
        have hj2 : (j : Int) < (n : Int) := by omega
        obtain ⟨D, hd⟩ : ∃ D, befB y x = D := ⟨_, rfl⟩
        have hcb := fun p : LowBy W1 => low_of (before_any y x p.W)
        rw [hd] at hcb
        have HE1 := hid (fun (h : B = true) (g : D = true) => HST.out (by rw [one_next HGX.out HGY.out, HS.out, hd, h, g]; rfl))
        have HE2 := hid (fun (h : B = false ∨ D = false) => HBAD.out (by rw [one_next HGX.out HGY.out, HS.out, hd]; rcases h with h | h <;> rw [h] <;> simp))
        clear hd hy hq hjl
        cases B
        · have HE := hid (HE2.out (.inl rfl))
          refine wp_region_low (by kernel_rfl) (by kernel_rfl) (fun R hR => ?_)
          repeat (refine low_step (by assumption) ?_; intro R hR K hK; go_simp; first | (refine hK _ ?_; clear hK K) | (apply Exists.intro; refine ⟨fun _ => ?_, hK _ ?_⟩; (go_at_call 52; exact hcs _); clear hK K))
          refine low_nil (by assumption) ?_; intro _ hw'; obtain ⟨⟨wq, hlow⟩, hw''⟩ := hw'; subst hw''; have HLOW := hid hlow; clear hlow; (try simp only)
          have HB2 := hid (bstep HB1.out HB1.out.size HLOW.out)
          go_wp2
          go_ret
          exact ⟨ret_bool HE.out.symm, HB2.out⟩
        · cases D
          · have HE := hid (HE2.out (.inr rfl))
            refine wp_region_low (by kernel_rfl) (by kernel_rfl) (fun R hR => ?_)
            repeat (refine low_step (by assumption) ?_; intro R hR K hK; go_simp; first | (refine hK _ ?_; clear hK K) | (apply Exists.intro; refine ⟨fun _ => ?_, hK _ ?_⟩; (first | (go_at_call 52; exact hcs _) | (go_at_call 57; exact hcb _)); clear hK K))
            refine low_nil (by assumption) ?_; intro _ hw'; obtain ⟨⟨wq, hlow⟩, hw''⟩ := hw'; subst hw''; have HLOW := hid hlow; clear hlow; (try simp only)
            have HB2 := hid (bstep HB1.out HB1.out.size HLOW.out)
            go_wp2
            go_ret
            exact ⟨ret_bool HE.out.symm, HB2.out⟩
          · have HE := hid (HE1.out rfl rfl)
            refine wp_region_low (by kernel_rfl) (by kernel_rfl) (fun R hR => ?_)
            repeat (refine low_step (by assumption) ?_; intro R hR K hK; go_simp; first | (refine hK _ ?_; clear hK K) | (apply Exists.intro; refine ⟨fun _ => ?_, hK _ ?_⟩; (first | (go_at_call 52; exact hcs _) | (go_at_call 57; exact hcb _)); clear hK K))
            refine low_nil (by assumption) ?_; intro _ hw'; obtain ⟨⟨wq, hlow⟩, hw''⟩ := hw'; subst hw''; have HLOW := hid hlow; clear hlow; (try simp only)
            have HB2 := hid (bstep HB1.out HB1.out.size HLOW.out)
            go_wp2
            go_roundw
            case rel => exact ⟨j + 1 + 1, HLT.out, by go_num, HE, HB2⟩
            case measure => have := HLT.out; simp [intOf]; omega
    · obtain rfl : k = n := by omega
      have HE := hid (shsB_end (l := l) (by rw [← HN.out]; exact h5) (fun j hj => hok.out j (by rw [HN.out]; exact hj)))
      go_wp2
      go_ret
      exact ⟨ret_bool HE.out.symm, hB.out⟩
end Go.Proofs.Ytjfakhfkbnnbcaa
