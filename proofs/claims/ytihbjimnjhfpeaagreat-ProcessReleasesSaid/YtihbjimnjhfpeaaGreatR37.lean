/- Texts of this seat, one behind the other. -/
import Derived.Test.YtihbjimnjhfpeaaGreatR36
import Derived.Test.YtihbjimnjhfpeaaGreatR23
import Derived.Test.YtihbjimnjhfpeaaGreatR32
import Derived.Test.YtihbjimnjhfpeaaGreatR33
import Derived.Test.YtihbjimnjhfpeaaGreatR34
/- Walks of Cooked of both: contracts. -/
namespace Go.Proofs.YtihbjimnjhfpeaaGreat.Rt
open Go.RowKit

/-- A reading of a cook that was hot enough, and how many they are. -/
def cookB (p : Nat → St) (t : Int) (x : Rd) : Bool := decide ((p x.s.toNat).k = 3) && decide (t ≤ x.t)
def cookN (p : Nat → St) (r : Nat → Rd) (t : Int) : Nat → Nat
  | 0 => 0
  | k + 1 => if cookB p t (r k) then cookN p r t k + 1 else cookN p r t k
theorem cookN_yes {p : Nat → St} {r : Nat → Rd} {t : Int} {k : Nat} (h : cookB p t (r k) = true) : cookN p r t (k + 1) = cookN p r t k + 1 := by rw [cookN, h]; rfl
theorem cookN_no {p : Nat → St} {r : Nat → Rd} {t : Int} {k : Nat} (h : cookB p t (r k) = false) : cookN p r t (k + 1) = cookN p r t k := by rw [cookN, h]; rfl
theorem cookN_le (p : Nat → St) (r : Nat → Rd) (t : Int) : ∀ k, cookN p r t k ≤ k
  | 0 => Nat.le_refl _
  | k + 1 => by
    have := cookN_le p r t k
    cases h : cookB p t (r k)
    · rw [cookN_no h]; omega
    · rw [cookN_yes h]; omega
/-- What Cooked answers. -/
def CookP (m : Nat) (p : Nat → St) (n : Nat) (r : Nat → Rd) (t : Int) (w : World) (e : Ending) (w' : World) : Prop :=
  ∃ a c : Int, e = .returned (.tuple #[.int .i64 a, .int .i64 c]) ∧ (recB m p n r = true ∧ c = 0 ∧ a = cookN p r t n ∨ recB m p n r = false ∧ c = 1 ∧ a = 0) ∧ Below w.heap.size w w'
set_option maxRecDepth 20000 in
set_option maxHeartbeats 4000000 in
theorem cook_any (u : Value) (m : Nat) (p : Nat → St) (v : Value) (n : Nat) (r : Nat → Rd) (t : Int) (w : World) (hp : RowP w u m p) (hr : RowR w v n r) :
    Calls Tryz.prog 135 #[u, v, .int .i64 t] w (CookP m p n r t w) := by
  have HK := hid (fun w1 (g : Below w.heap.size w w1) => hr.keep g)
  have HQ := hid (fun w1 (g : Below w.heap.size w w1) => (show RowP w1 u m p from RowT.keep hp g))
  have HP := hid hp
  have HR := hid hr
  have hnm := hr.most
  have hmm := RowT.most hp
  unfold maxLen at hnm hmm
  obtain ⟨pa, pc, rfl⟩ := RowT.shape hp
  obtain ⟨va, vc, rfl⟩ := hr.shape
  clear hp hr
  cases hrec : recB m p n r
  · have HREC := hid hrec
    go_enter Tryz.func135, Tryz.ntmps135
    go_wp2_with (go_at_call 41; refine (vrec_any _ _ _ _ _ _ _ HP.out HR.out).mono ?_; rintro e w1 ⟨rfl, hb⟩; rw [hrec]; have HB := hid hb; clear hb)
    refine bodyPost_ret (v := .tuple #[.int .i64 0, .int .i64 1]) (by simp [results, Tryz.results135, go_sem]) rfl ?_
    exact ⟨0, 1, rfl, .inr ⟨HREC.out, rfl, rfl⟩, HB.out⟩
  obtain ⟨hn, hm1, hm16, hst⟩ := rec_step hrec
  have HREC := hid hrec
  have HST := hid hst
  clear hst
  go_enter Tryz.func135, Tryz.ntmps135
  go_wp2_with (go_at_call 41; refine (vrec_any _ _ _ _ _ _ _ HP.out HR.out).mono ?_; rintro e w1 ⟨rfl, hb⟩; rw [hrec]; have HB := hid hb; clear hb)
  clear hrec
  go_loopw [8, 17] (fun v i wr => ∃ k : Nat, k ≤ n ∧ i = .int .i64 (k : Int) ∧ v = .int .i64 (cookN p r t k : Int) ∧ Hid (Below w.heap.size w wr)) (fun _ i _ => n - (intOf i).toNat)
  case atStart => exact ⟨0, Nat.zero_le _, rfl, rfl, HB⟩
  case round =>
    obtain ⟨k, hk, rfl, rfl, hB⟩ := hrel
    by_cases hlt : k < n
    · have hlt' : (k : Int) < n := by omega
      obtain ⟨a', b', o', cap', hv, _, _, ha', hcell⟩ := HK.out _ hB.out
      injection hv with hv1 hv2 hv3
      subst hv1 hv3
      rcases ha' with h0 | rfl
      · omega
      obtain ⟨c0, c1, c2, c3⟩ := hcell k hlt
      obtain ⟨hs0, hs1⟩ := HST.out k hlt
      have HLE := hid (cookN_le p r t k)
      have hle := HLE.out
      have HYES := hid (cookN_yes (p := p) (r := r) (t := t) (k := k))
      have HNO := hid (cookN_no (p := p) (r := r) (t := t) (k := k))
      obtain ⟨x, hX⟩ : ∃ x, x = r k := ⟨_, rfl⟩
      rw [← hX] at c0 c1 c2 c3 hs0 hs1 HYES HNO
      clear hcell hX hv2
      obtain ⟨xs, xt, xc, xb⟩ := x
      simp only at c0 c1 c2 c3 hs0 hs1
      obtain ⟨q, rfl⟩ : ∃ q : Nat, xs = q := ⟨xs.toNat, by omega⟩
      have hq : q < m := by omega
      have HB1 := hid (hB.out.alloc hB.out.size (.cells #[.int .i64 q, .int .i64 xt, .int .i64 xc, .int .i64 xb] 56))
      obtain ⟨a2, b2, o2, cap2, hv, _, _, ha2, hcell2⟩ := HQ.out _ HB1.out
      injection hv with hv1 hv2 hv3
      subst hv1 hv3
      rcases ha2 with h0 | rfl
      · omega
      obtain ⟨d0, d1, d2⟩ := hcell2 q hq
      have HCB := hid (show cookB p t ⟨q, xt, xc, xb⟩ = (decide ((p q).k = 3) && decide (t ≤ xt)) from rfl)
      simp only at d0
      generalize (p q).k = yk at d0 HCB
      clear hcell2 hv2 d1 d2
      have HLT := hid hlt
      clear hlt
      by_cases hc1 : yk = 3
      case neg =>
        have g1 : (yk == 3) = false := by simpa using hc1
        have HN := hid (HNO.out (by rw [HCB.out, decide_eq_false hc1]; rfl))
        generalize hcn : cookN p r t k = cn at hle HN
        go_wp2
        go_roundw
        case rel => exact ⟨k + 1, by have := HLT.out; omega, by go_num, by rw [HN.out], HB1⟩
        case measure => have := HLT.out; simp [intOf]; omega
      subst hc1
      by_cases hc2 : t ≤ xt
      case neg =>
        have g1 : decide (t ≤ xt) = false := by simpa using hc2
        have HN := hid (HNO.out (by rw [HCB.out, g1, Bool.and_false]))
        generalize hcn : cookN p r t k = cn at hle HN
        go_wp2
        go_roundw
        case rel => exact ⟨k + 1, by have := HLT.out; omega, by go_num, by rw [HN.out], HB1⟩
        case measure => have := HLT.out; simp [intOf]; omega
      have g1 : decide (t ≤ xt) = true := by simpa using hc2
      have HN := hid (HYES.out (by rw [HCB.out, g1]; rfl))
      generalize hcn : cookN p r t k = cn at hle HN
      go_wp2
      go_roundw
      case rel => exact ⟨k + 1, by have := HLT.out; omega, by go_num, by rw [HN.out]; go_num, HB1⟩
      case measure => have := HLT.out; simp [intOf]; omega
    · obtain rfl : k = n := by omega
      have hle := cookN_le p r t k
      generalize hcn : cookN p r t k = cn at hle
      go_wp2
      refine bodyPost_ret (v := .tuple #[.int .i64 (cn : Int), .int .i64 0]) (by simp [results, Tryz.results135, go_sem]) rfl ?_
      exact ⟨_, _, rfl, .inl ⟨HREC.out, rfl, by rw [← hcn]⟩, hB.out⟩
set_option maxRecDepth 20000 in
set_option maxHeartbeats 4000000 in
theorem xcook_any (u : Value) (m : Nat) (p : Nat → St) (v : Value) (n : Nat) (r : Nat → Rd) (t : Int) (w : World) (hp : RowP w u m p) (hr : RowR w v n r) :
    Calls Tryz.prog 17 #[u, v, .int .i64 t] w (CookP m p n r t w) := by
  have HK := hid (fun w1 (g : Below w.heap.size w w1) => hr.keep g)
  have HQ := hid (fun w1 (g : Below w.heap.size w w1) => (show RowP w1 u m p from RowT.keep hp g))
  have HP := hid hp
  have HR := hid hr
  have hnm := hr.most
  have hmm := RowT.most hp
  unfold maxLen at hnm hmm
  obtain ⟨pa, pc, rfl⟩ := RowT.shape hp
  obtain ⟨va, vc, rfl⟩ := hr.shape
  clear hp hr
  cases hrec : recB m p n r
  · have HREC := hid hrec
    go_enter Tryz.func17, Tryz.ntmps17
    go_wp2_with (go_at_call 47; refine (xrec_any _ _ _ _ _ _ _ HP.out HR.out).mono ?_; rintro e w1 ⟨rfl, hb⟩; rw [hrec]; have HB := hid hb; clear hb)
    refine bodyPost_ret (v := .tuple #[.int .i64 0, .int .i64 1]) (by simp [results, Tryz.results17, go_sem]) rfl ?_
    exact ⟨0, 1, rfl, .inr ⟨HREC.out, rfl, rfl⟩, HB.out⟩
  obtain ⟨hn, hm1, hm16, hst⟩ := rec_step hrec
  have HREC := hid hrec
  have HST := hid hst
  clear hst
  go_enter Tryz.func17, Tryz.ntmps17
  go_wp2_with (go_at_call 47; refine (xrec_any _ _ _ _ _ _ _ HP.out HR.out).mono ?_; rintro e w1 ⟨rfl, hb⟩; rw [hrec]; have HB := hid hb; clear hb)
  clear hrec
  go_loopw [8, 9] (fun v i wr => ∃ k : Nat, k ≤ n ∧ i = .int .i64 (k : Int) ∧ v = .int .i64 (cookN p r t k : Int) ∧ Hid (Below w.heap.size w wr)) (fun _ i _ => n - (intOf i).toNat)
  case atStart => exact ⟨0, Nat.zero_le _, rfl, rfl, HB⟩
  case round =>
    obtain ⟨k, hk, rfl, rfl, hB⟩ := hrel
    by_cases hlt : k < n
    · have hlt' : (k : Int) < n := by omega
      obtain ⟨a', b', o', cap', hv, _, _, ha', hcell⟩ := HK.out _ hB.out
      injection hv with hv1 hv2 hv3
      subst hv1 hv3
      rcases ha' with h0 | rfl
      · omega
      obtain ⟨c0, c1, c2, c3⟩ := hcell k hlt
      obtain ⟨hs0, hs1⟩ := HST.out k hlt
      have HLE := hid (cookN_le p r t k)
      have hle := HLE.out
      have HYES := hid (cookN_yes (p := p) (r := r) (t := t) (k := k))
      have HNO := hid (cookN_no (p := p) (r := r) (t := t) (k := k))
      obtain ⟨x, hX⟩ : ∃ x, x = r k := ⟨_, rfl⟩
      rw [← hX] at c0 c1 c2 c3 hs0 hs1 HYES HNO
      clear hcell hX hv2
      obtain ⟨xs, xt, xc, xb⟩ := x
      simp only at c0 c1 c2 c3 hs0 hs1
      obtain ⟨q, rfl⟩ : ∃ q : Nat, xs = q := ⟨xs.toNat, by omega⟩
      have hq : q < m := by omega
      have HB1 := hid hB.out
      obtain ⟨a2, b2, o2, cap2, hv, _, _, ha2, hcell2⟩ := HQ.out _ HB1.out
      injection hv with hv1 hv2 hv3
      subst hv1 hv3
      rcases ha2 with h0 | rfl
      · omega
      obtain ⟨d0, d1, d2⟩ := hcell2 q hq
      have HCB := hid (show cookB p t ⟨q, xt, xc, xb⟩ = (decide ((p q).k = 3) && decide (t ≤ xt)) from rfl)
      simp only at d0
      generalize (p q).k = yk at d0 HCB
      clear hcell2 hv2 d1 d2
      have HLT := hid hlt
      clear hlt
      by_cases hc1 : yk = 3
      case neg =>
        have g1 : (yk == 3) = false := by simpa using hc1
        have HN := hid (HNO.out (by rw [HCB.out, decide_eq_false hc1]; rfl))
        generalize hcn : cookN p r t k = cn at hle HN
        go_wp2
        go_roundw
        case rel => exact ⟨k + 1, by have := HLT.out; omega, by go_num, by rw [HN.out], HB1⟩
        case measure => have := HLT.out; simp [intOf]; omega
      subst hc1
      by_cases hc2 : t ≤ xt
      case neg =>
        have g1 : decide (t ≤ xt) = false := by simpa using hc2
        have HN := hid (HNO.out (by rw [HCB.out, g1, Bool.and_false]))
        generalize hcn : cookN p r t k = cn at hle HN
        go_wp2
        go_roundw
        case rel => exact ⟨k + 1, by have := HLT.out; omega, by go_num, by rw [HN.out], HB1⟩
        case measure => have := HLT.out; simp [intOf]; omega
      have g1 : decide (t ≤ xt) = true := by simpa using hc2
      have HN := hid (HYES.out (by rw [HCB.out, g1]; rfl))
      generalize hcn : cookN p r t k = cn at hle HN
      go_wp2
      go_roundw
      case rel => exact ⟨k + 1, by have := HLT.out; omega, by go_num, by rw [HN.out]; go_num, HB1⟩
      case measure => have := HLT.out; simp [intOf]; omega
    · obtain rfl : k = n := by omega
      have hle := cookN_le p r t k
      generalize hcn : cookN p r t k = cn at hle
      go_wp2
      refine bodyPost_ret (v := .tuple #[.int .i64 (cn : Int), .int .i64 0]) (by simp [results, Tryz.results17, go_sem]) rfl ?_
      exact ⟨_, _, rfl, .inl ⟨HREC.out, rfl, by rw [← hcn]⟩, hB.out⟩
end Go.Proofs.YtihbjimnjhfpeaaGreat.Rt

/- A trial's rules and its verdict: contracts. -/
namespace Go.Proofs.YtihbjimnjhfpeaaGreat
open Go.RowKit Go.Lib

def unpV (wb vb : Bool) (hi : Int) : Int := if ((wb && vb) && decide (hi < 0)) = true then 0 else 2
def schV (s : Sch) (t fi : Int) (d : Nat) (ck : Nat) : Int := if ((s.fit t fi && decide (d = 0)) && decide (s.tk ≤ (ck : Int))) = true then 1 else 0
def steV (so : Bool) : Int := if so = true then 1 else 0
def unsV (sp nd : Int) : Int := if sp < nd then 3 else 0
/-- The first rule that speaks. -/
def verV (v0 v1 v2 v3 : Int) : Int := if v0 ≠ 0 then v0 else if v1 ≠ 0 then v1 else if v2 ≠ 0 then v2 else if v3 ≠ 0 then v3 else 4
def IntW (y : Int) (w : World) (e : Ending) (w' : World) : Prop := e = .returned (.int .i64 y) ∧ Below w.heap.size w w'
set_option maxRecDepth 100000 in
set_option maxHeartbeats 4000000 in
theorem unproved_any (s : Sch) (pa : Option Addr) (m pc : Nat) (st : Nat → Rt.St) (va : Option Addr) (n vc : Nat) (rd : Nat → Rt.Rd) (ba : Option Addr) (bl : List Int) (bc : Nat) (t fi : Int) (r l a b k a2 b2 : Int) (q x : Kl) (w : World) (hp : Rt.RowP w (.slice pa m pc) m st) (hr : Rt.RowR w (.slice va n vc) n rd) {vb : Bool} {ve : Int} (hV : Rt.VentV m st n rd vb ve) :
    Calls Tryz.prog 86 #[.agg #[.string s.pr, .int .i64 s.it, .int .i64 s.tm, .int .i64 s.tk, .int .i64 s.fl, .slice pa m pc, .slice va n vc, .slice ba bl.length bc, .int .i64 t, .int .i64 fi, .int .i64 r, .int .i64 l, .int .i64 a, .int .i64 b, .int .i64 k, .int .i64 a2, .int .i64 b2, .string q.s, .int .i64 q.r, .int .i64 q.z, .int .i64 q.d, .int .i64 q.g, .string x.s, .int .i64 x.r, .int .i64 x.z, .int .i64 x.d, .int .i64 x.g]] w (IntW (unpV (Rt.wholeB m st n rd) vb (Rt.highN n rd)) w) := by
  have BX := hid (box1_start (w := w) (A := #[.string s.pr, .int .i64 s.it, .int .i64 s.tm, .int .i64 s.tk, .int .i64 s.fl, .slice pa m pc, .slice va n vc, .slice ba bl.length bc, .int .i64 t, .int .i64 fi, .int .i64 r, .int .i64 l, .int .i64 a, .int .i64 b, .int .i64 k, .int .i64 a2, .int .i64 b2, .string q.s, .int .i64 q.r, .int .i64 q.z, .int .i64 q.d, .int .i64 q.g, .string x.s, .int .i64 x.r, .int .i64 x.z, .int .i64 x.d, .int .i64 x.g]) (T := 98) (fz := (0, 0)))
  have HP := hid (fun w1 (g : Below w.heap.size w w1) => (show Rt.RowP w1 (.slice pa m pc) m st from Rt.RowT.keep hp g))
  have HR := hid (fun w1 (g : Below w.heap.size w w1) => hr.keep g)
  have HVE := hid hV
  have HV := hid (fun W h1 h2 => Rt.vvent_any (.slice pa m pc) m st (.slice va n vc) n rd W h1 h2)
  have HW := hid (fun W h1 h2 => Rt.vwhole_any (.slice pa m pc) m st (.slice va n vc) n rd W h1 h2)
  have HH := hid (fun W h => Rt.vhigh_any (.slice va n vc) n rd W h)
  generalize Rt.wholeB m st n rd = wb at *
  generalize Rt.highN n rd = hi at *
  clear hp hr hV
  have t5 := BX.out.fst 5; have t6 := BX.out.fst 6
  simp only [List.getElem?_toArray, List.getElem?_cons_zero, List.getElem?_cons_succ] at t5 t6
  go_enter Tryz.func86, Tryz.ntmps86
  go_wp2_with fail
  refine (HV.out _ (HP.out _ BX.out.low) (HR.out _ BX.out.low)).mono ?_
  rintro e w1 ⟨b1, c1, rfl, hv, hb⟩
  obtain ⟨rfl, rfl⟩ := HVE.out.one hv
  have BX := hid (BX.out.keep hb)
  clear hb t5 t6
  clear hv HVE
  have t5 := BX.out.fst 5; have t6 := BX.out.fst 6
  simp only [List.getElem?_toArray, List.getElem?_cons_zero, List.getElem?_cons_succ] at t5 t6
  go_wp2_with fail
  refine (HW.out _ (HP.out _ BX.out.low) (HR.out _ BX.out.low)).mono ?_
  rintro e w2 ⟨rfl, hb⟩
  have BX := hid (BX.out.keep hb)
  clear hb t5 t6
  have t5 := BX.out.fst 5; have t6 := BX.out.fst 6
  simp only [List.getElem?_toArray, List.getElem?_cons_zero, List.getElem?_cons_succ] at t5 t6
  cases wb
  · go_wp2_with fail
    go_ret
    exact ⟨rfl, BX.out.low⟩
  cases vb
  · go_wp2_with fail
    go_ret
    exact ⟨rfl, BX.out.low⟩
  cases h1 : decide (hi < 0)
  · have h1' := of_decide_eq_false h1
    go_wp2_with fail
    refine (HH.out _ (HR.out _ BX.out.low)).mono ?_
    rintro e w3 ⟨rfl, hb⟩
    have BX := hid (BX.out.keep hb)
    clear hb t5 t6
    go_wp2_with fail
    go_ret
    exact ⟨ret_int (by unfold unpV; rw [h1]; rfl), BX.out.low⟩
  · have h1' := of_decide_eq_true h1
    go_wp2_with fail
    refine (HH.out _ (HR.out _ BX.out.low)).mono ?_
    rintro e w3 ⟨rfl, hb⟩
    have BX := hid (BX.out.keep hb)
    clear hb t5 t6
    go_wp2_with fail
    go_ret
    exact ⟨ret_int (by unfold unpV; rw [h1]; rfl), BX.out.low⟩
set_option maxRecDepth 100000 in
set_option maxHeartbeats 4000000 in
theorem scheduled_any (s : Sch) (pa : Option Addr) (m pc : Nat) (st : Nat → Rt.St) (va : Option Addr) (n vc : Nat) (rd : Nat → Rt.Rd) (ba : Option Addr) (bl : List Int) (bc : Nat) (t fi : Int) (r l a b k a2 b2 : Int) (q x : Kl) (w : World) (hp : Rt.RowP w (.slice pa m pc) m st) (hr : Rt.RowR w (.slice va n vc) n rd) (hrec : Rt.recB m st n rd = true) (_hn : n ≤ 2000) :
    Calls Tryz.prog 87 #[.agg #[.string s.pr, .int .i64 s.it, .int .i64 s.tm, .int .i64 s.tk, .int .i64 s.fl, .slice pa m pc, .slice va n vc, .slice ba bl.length bc, .int .i64 t, .int .i64 fi, .int .i64 r, .int .i64 l, .int .i64 a, .int .i64 b, .int .i64 k, .int .i64 a2, .int .i64 b2, .string q.s, .int .i64 q.r, .int .i64 q.z, .int .i64 q.d, .int .i64 q.g, .string x.s, .int .i64 x.r, .int .i64 x.z, .int .i64 x.d, .int .i64 x.g]] w (IntW (schV s t fi (Rt.devL st rd n).length (Rt.cookN st rd s.tm n)) w) := by
  have BX := hid (box1_start (w := w) (A := #[.string s.pr, .int .i64 s.it, .int .i64 s.tm, .int .i64 s.tk, .int .i64 s.fl, .slice pa m pc, .slice va n vc, .slice ba bl.length bc, .int .i64 t, .int .i64 fi, .int .i64 r, .int .i64 l, .int .i64 a, .int .i64 b, .int .i64 k, .int .i64 a2, .int .i64 b2, .string q.s, .int .i64 q.r, .int .i64 q.z, .int .i64 q.d, .int .i64 q.g, .string x.s, .int .i64 x.r, .int .i64 x.z, .int .i64 x.d, .int .i64 x.g]) (T := 98) (fz := (0, 0)))
  have HP := hid (fun w1 (g : Below w.heap.size w w1) => (show Rt.RowP w1 (.slice pa m pc) m st from Rt.RowT.keep hp g))
  have HR := hid (fun w1 (g : Below w.heap.size w w1) => hr.keep g)
  have HRE := hid hrec
  have HDV := hid (fun W h1 h2 => Rt.dev_any (.slice pa m pc) m st (.slice va n vc) n rd W h1 h2)
  have HCK := hid (fun W h1 h2 => Rt.cook_any (.slice pa m pc) m st (.slice va n vc) n rd s.tm W h1 h2)
  have HF := hid (fun W => fits_any s t fi W)
  have hdl : (Rt.devL st rd n).length ≤ n := (Rt.dev_ok st rd n).few
  clear hp hr hrec
  obtain ⟨DL, hDL⟩ : ∃ d, d = Rt.devL st rd n := ⟨_, rfl⟩
  obtain ⟨CK, hCK⟩ : ∃ d, d = Rt.cookN st rd s.tm n := ⟨_, rfl⟩
  have HDL := hid hDL
  have HCKE := hid hCK
  rw [← hDL] at hdl ⊢
  rw [← hCK]
  clear hDL hCK
  have t0 := BX.out.fst 0; have t1 := BX.out.fst 1; have t2 := BX.out.fst 2; have t3 := BX.out.fst 3; have t4 := BX.out.fst 4; have t5 := BX.out.fst 5; have t6 := BX.out.fst 6; have t8 := BX.out.fst 8; have t9 := BX.out.fst 9
  simp only [List.getElem?_toArray, List.getElem?_cons_zero, List.getElem?_cons_succ] at t0 t1 t2 t3 t4 t5 t6 t8 t9
  go_enter Tryz.func87, Tryz.ntmps87
  go_wp2_with fail
  refine (HDV.out _ (HP.out _ BX.out.low) (HR.out _ BX.out.low)).mono ?_
  rintro e w1 ⟨v1, l1, c1, rfl, h1, h2, hb⟩
  have hl1 : l1 = DL := by
    rcases h1 with ⟨_, _, h1⟩ | ⟨h1, _⟩
    · rw [h1, HDL.out]
    · rw [HRE.out] at h1; cases h1
  subst hl1
  obtain ⟨da, dc, rfl⟩ := Rt.RowT.shape h2
  have BX := hid (BX.out.keep hb)
  clear hb t0 t1 t2 t3 t4 t5 t6 t8 t9
  clear h1 h2
  have t0 := BX.out.fst 0; have t1 := BX.out.fst 1; have t2 := BX.out.fst 2; have t3 := BX.out.fst 3; have t4 := BX.out.fst 4; have t5 := BX.out.fst 5; have t6 := BX.out.fst 6; have t8 := BX.out.fst 8; have t9 := BX.out.fst 9
  simp only [List.getElem?_toArray, List.getElem?_cons_zero, List.getElem?_cons_succ] at t0 t1 t2 t3 t4 t5 t6 t8 t9
  go_wp2_with fail
  refine (HCK.out _ (HP.out _ BX.out.low) (HR.out _ BX.out.low)).mono ?_
  rintro e w2 ⟨a1, c2, rfl, h1, hb⟩
  have ha1 : a1 = (CK : Int) := by
    rcases h1 with ⟨_, _, h1⟩ | ⟨h1, _⟩
    · rw [h1, HCKE.out]
    · rw [HRE.out] at h1; cases h1
  subst ha1
  have BX := hid (BX.out.keep hb)
  clear hb t0 t1 t2 t3 t4 t5 t6 t8 t9
  clear h1
  have t0 := BX.out.fst 0; have t1 := BX.out.fst 1; have t2 := BX.out.fst 2; have t3 := BX.out.fst 3; have t4 := BX.out.fst 4; have t5 := BX.out.fst 5; have t6 := BX.out.fst 6; have t8 := BX.out.fst 8; have t9 := BX.out.fst 9
  simp only [List.getElem?_toArray, List.getElem?_cons_zero, List.getElem?_cons_succ] at t0 t1 t2 t3 t4 t5 t6 t8 t9
  go_wp2_with fail
  refine (HF.out _).mono ?_
  rintro e w3 ⟨rfl, hb⟩
  have BX := hid (BX.out.keep hb)
  clear hb t0 t1 t2 t3 t4 t5 t6 t8 t9
  have t3 := BX.out.fst 3
  simp only [List.getElem?_toArray, List.getElem?_cons_zero, List.getElem?_cons_succ] at t3
  have HFT := hid (show ∀ b, s.fit t fi = b → schV s t fi l1.length CK = if ((b && decide (l1.length = 0)) && decide (s.tk ≤ (CK : Int))) = true then 1 else 0 from fun b h => by unfold schV; rw [h])
  cases h1 : s.fit t fi
  · go_wp2_with fail
    go_ret
    exact ⟨ret_int (by rw [HFT.out false h1]; rfl), BX.out.low⟩
  cases h2 : decide (l1.length = 0)
  · have h2' : ((l1.length : Int) == 0) = false := by simpa using h2
    go_wp2_with fail
    go_ret
    exact ⟨ret_int (by rw [HFT.out true h1, h2]; rfl), BX.out.low⟩
  have h2' : ((l1.length : Int) == 0) = true := by simpa using h2
  cases h3 : decide (s.tk ≤ (CK : Int))
  · have h3' := of_decide_eq_false h3
    go_wp2_with fail
    go_ret
    exact ⟨ret_int (by rw [HFT.out true h1, h2, h3]; rfl), BX.out.low⟩
  · have h3' := of_decide_eq_true h3
    go_wp2_with fail
    go_ret
    exact ⟨ret_int (by rw [HFT.out true h1, h2, h3]; rfl), BX.out.low⟩
set_option maxRecDepth 100000 in
set_option maxHeartbeats 4000000 in
theorem tsterile_any (s : Sch) (pa : Option Addr) (m pc : Nat) (_st : Nat → Rt.St) (va : Option Addr) (n vc : Nat) (_rd : Nat → Rt.Rd) (ba : Option Addr) (bl : List Int) (bc : Nat) (t fi : Int) (r l a b k a2 b2 : Int) (q x : Kl) (w : World) (hbl : RowI w (.slice ba bl.length bc) bl) (hs : q.s.size ≤ maxLen) :
    Calls Tryz.prog 88 #[.agg #[.string s.pr, .int .i64 s.it, .int .i64 s.tm, .int .i64 s.tk, .int .i64 s.fl, .slice pa m pc, .slice va n vc, .slice ba bl.length bc, .int .i64 t, .int .i64 fi, .int .i64 r, .int .i64 l, .int .i64 a, .int .i64 b, .int .i64 k, .int .i64 a2, .int .i64 b2, .string q.s, .int .i64 q.r, .int .i64 q.z, .int .i64 q.d, .int .i64 q.g, .string x.s, .int .i64 x.r, .int .i64 x.z, .int .i64 x.d, .int .i64 x.g]] w (IntW (steV (sterO q (lowO (sumsO r l a b k a2 b2 q t bl)) (chk4 (canB r l a b k a2 b2) q.vB t bl))) w) := by
  have BX := hid (box1_start (w := w) (A := #[.string s.pr, .int .i64 s.it, .int .i64 s.tm, .int .i64 s.tk, .int .i64 s.fl, .slice pa m pc, .slice va n vc, .slice ba bl.length bc, .int .i64 t, .int .i64 fi, .int .i64 r, .int .i64 l, .int .i64 a, .int .i64 b, .int .i64 k, .int .i64 a2, .int .i64 b2, .string q.s, .int .i64 q.r, .int .i64 q.z, .int .i64 q.d, .int .i64 q.g, .string x.s, .int .i64 x.r, .int .i64 x.z, .int .i64 x.d, .int .i64 x.g]) (T := 98) (fz := (0, 0)))
  have HL := hid (fun w1 (g : Below w.heap.size w w1) => hbl.keep g)
  have HS := hid (fun W h => ster_any r l a b k a2 b2 W q t (.slice ba bl.length bc) bl hs h (RowI.most hbl))
  generalize sterO q (lowO (sumsO r l a b k a2 b2 q t bl)) (chk4 (canB r l a b k a2 b2) q.vB t bl) = so at *
  generalize chk4 (canB r l a b k a2 b2) q.vB t bl = ce at *
  clear hs hbl
  have t7 := BX.out.fst 7; have t8 := BX.out.fst 8; have t10 := BX.out.fst 10; have t11 := BX.out.fst 11; have t12 := BX.out.fst 12; have t13 := BX.out.fst 13; have t14 := BX.out.fst 14; have t15 := BX.out.fst 15; have t16 := BX.out.fst 16; have t17 := BX.out.fst 17; have t18 := BX.out.fst 18; have t19 := BX.out.fst 19; have t20 := BX.out.fst 20; have t21 := BX.out.fst 21
  simp only [List.getElem?_toArray, List.getElem?_cons_zero, List.getElem?_cons_succ] at t7 t8 t10 t11 t12 t13 t14 t15 t16 t17 t18 t19 t20 t21
  go_enter Tryz.func88, Tryz.ntmps88
  go_wp2_with fail
  refine (HS.out _ (HL.out _ BX.out.low)).mono ?_
  rintro e w1 ⟨rfl, hb⟩
  have BX := hid (BX.out.keep hb)
  clear hb t7 t8 t10 t11 t12 t13 t14 t15 t16 t17 t18 t19 t20 t21
  cases so
  · go_wp2_with fail
    go_ret
    exact ⟨rfl, BX.out.low⟩
  · go_wp2_with fail
    go_ret
    exact ⟨rfl, BX.out.low⟩
set_option maxRecDepth 100000 in
set_option maxHeartbeats 4000000 in
theorem unspoiled_any (s : Sch) (pa : Option Addr) (m pc : Nat) (_st : Nat → Rt.St) (va : Option Addr) (n vc : Nat) (_rd : Nat → Rt.Rd) (ba : Option Addr) (bl : List Int) (bc : Nat) (t fi : Int) (r l a b k a2 b2 : Int) (q x : Kl) (w : World) (hbl : RowI w (.slice ba bl.length bc) bl) (hx : x.s.size ≤ maxLen) (hxv : x.vB = true) :
    Calls Tryz.prog 89 #[.agg #[.string s.pr, .int .i64 s.it, .int .i64 s.tm, .int .i64 s.tk, .int .i64 s.fl, .slice pa m pc, .slice va n vc, .slice ba bl.length bc, .int .i64 t, .int .i64 fi, .int .i64 r, .int .i64 l, .int .i64 a, .int .i64 b, .int .i64 k, .int .i64 a2, .int .i64 b2, .string q.s, .int .i64 q.r, .int .i64 q.z, .int .i64 q.d, .int .i64 q.g, .string x.s, .int .i64 x.r, .int .i64 x.z, .int .i64 x.d, .int .i64 x.g]] w (IntW (unsV (spoO r l a b k a2 b2 x t bl) (x.g * (x.d * 1000000))) w) := by
  have BX := hid (box1_start (w := w) (A := #[.string s.pr, .int .i64 s.it, .int .i64 s.tm, .int .i64 s.tk, .int .i64 s.fl, .slice pa m pc, .slice va n vc, .slice ba bl.length bc, .int .i64 t, .int .i64 fi, .int .i64 r, .int .i64 l, .int .i64 a, .int .i64 b, .int .i64 k, .int .i64 a2, .int .i64 b2, .string q.s, .int .i64 q.r, .int .i64 q.z, .int .i64 q.d, .int .i64 q.g, .string x.s, .int .i64 x.r, .int .i64 x.z, .int .i64 x.d, .int .i64 x.g]) (T := 98) (fz := (0, 0)))
  have HL := hid (fun w1 (g : Below w.heap.size w w1) => hbl.keep g)
  have HS := hid (fun W h => spoil_any r l a b k a2 b2 W x t (.slice ba bl.length bc) bl hx h (RowI.most hbl))
  have HN := hid (fun W => Lt.needs_yes x.s x.r x.z x.d x.g W hx hxv)
  obtain ⟨sp, hsp⟩ : ∃ y, y = spoO r l a b k a2 b2 x t bl := ⟨_, rfl⟩
  rw [← hsp] at HS ⊢
  generalize chk4 (canB r l a b k a2 b2) x.vB t bl = ce at *
  obtain ⟨nd, hnd⟩ : ∃ y, y = x.g * (x.d * 1000000) := ⟨_, rfl⟩
  rw [← hnd] at HN ⊢
  clear hx hbl hxv hsp hnd
  have t7 := BX.out.fst 7; have t8 := BX.out.fst 8; have t10 := BX.out.fst 10; have t11 := BX.out.fst 11; have t12 := BX.out.fst 12; have t13 := BX.out.fst 13; have t14 := BX.out.fst 14; have t15 := BX.out.fst 15; have t16 := BX.out.fst 16; have t22 := BX.out.fst 22; have t23 := BX.out.fst 23; have t24 := BX.out.fst 24; have t25 := BX.out.fst 25; have t26 := BX.out.fst 26
  simp only [List.getElem?_toArray, List.getElem?_cons_zero, List.getElem?_cons_succ] at t7 t8 t10 t11 t12 t13 t14 t15 t16 t22 t23 t24 t25 t26
  go_enter Tryz.func89, Tryz.ntmps89
  go_wp2_with fail
  refine (HS.out _ (HL.out _ BX.out.low)).mono ?_
  rintro e w1 ⟨rfl, hb⟩
  have BX := hid (BX.out.keep hb)
  clear hb t7 t8 t10 t11 t12 t13 t14 t15 t16 t22 t23 t24 t25 t26
  have t22 := BX.out.fst 22; have t23 := BX.out.fst 23; have t24 := BX.out.fst 24; have t25 := BX.out.fst 25; have t26 := BX.out.fst 26
  simp only [List.getElem?_toArray, List.getElem?_cons_zero, List.getElem?_cons_succ] at t22 t23 t24 t25 t26
  cases h1 : decide (sp < nd)
  · have h1' := of_decide_eq_false h1
    go_wp2_with fail
    refine (HN.out _).mono ?_
    rintro e w2 ⟨rfl, hb⟩
    have BX := hid (BX.out.keep hb)
    clear hb t22 t23 t24 t25 t26
    go_wp2_with fail
    go_ret
    exact ⟨ret_int (by unfold unsV; rw [if_neg (by omega)]), BX.out.low⟩
  · have h1' := of_decide_eq_true h1
    go_wp2_with fail
    refine (HN.out _).mono ?_
    rintro e w2 ⟨rfl, hb⟩
    have BX := hid (BX.out.keep hb)
    clear hb t22 t23 t24 t25 t26
    go_wp2_with fail
    go_ret
    exact ⟨ret_int (by unfold unsV; rw [if_pos h1']), BX.out.low⟩
theorem idx4_0 (f0 f1 f2 f3 : Value) (W : World) : Sem.run Tryz.prog (Instr.index 143 (.agg #[f0, f1, f2, f3]) (.int .i64 0)) W = .ok f0 W := by kernel_rfl
theorem idx4_1 (f0 f1 f2 f3 : Value) (W : World) : Sem.run Tryz.prog (Instr.index 143 (.agg #[f0, f1, f2, f3]) (.int .i64 1)) W = .ok f1 W := by kernel_rfl
theorem idx4_2 (f0 f1 f2 f3 : Value) (W : World) : Sem.run Tryz.prog (Instr.index 143 (.agg #[f0, f1, f2, f3]) (.int .i64 2)) W = .ok f2 W := by kernel_rfl
theorem idx4_3 (f0 f1 f2 f3 : Value) (W : World) : Sem.run Tryz.prog (Instr.index 143 (.agg #[f0, f1, f2, f3]) (.int .i64 3)) W = .ok f3 W := by kernel_rfl
theorem ne_bool {y : Int} (h : y ≠ 0) : (y != 0) = true := by simpa using h
theorem infoTr : (Tryz.prog.info? 98).map (·.size) = some 27 := by kernel_rfl
set_option maxRecDepth 100000 in
set_option maxHeartbeats 8000000 in
theorem verdict_gen (A : Array Value) (w : World) (v0 v1 v2 v3 : Int) (hsz : A.size = 27) (_hone : A.all Value.oneCell' = true)
    (h0 : ∀ W, Below w.heap.size w W → Calls Tryz.prog 86 #[.agg A] W (IntW v0 W))
    (h1 : ∀ W, Below w.heap.size w W → Calls Tryz.prog 87 #[.agg A] W (IntW v1 W))
    (h2 : ∀ W, Below w.heap.size w W → Calls Tryz.prog 88 #[.agg A] W (IntW v2 W))
    (h3 : ∀ W, Below w.heap.size w W → Calls Tryz.prog 89 #[.agg A] W (IntW v3 W)) :
    Calls Tryz.prog 45 #[.agg A] w (IntW (verV v0 v1 v2 v3) w) := by
  have BX := hid (box1_start (w := w) (A := A) (T := 98) (fz := (0, 0)))
  have HB := hid (heap_alloc_new w (.cells A 98 (0, 0)))
  have HI := hid (show (Tryz.prog.info? 98).map (·.size) = some A.size by rw [hsz]; exact infoTr)
  have H0 := hid h0
  have H1 := hid h1
  have H2 := hid h2
  have H3 := hid h3
  clear h0 h1 h2 h3
  have e0 := enter_at Tryz.func86 (by kernel_rfl) (by kernel_rfl)
  have e1 := enter_at Tryz.func87 (by kernel_rfl) (by kernel_rfl)
  have e2 := enter_at Tryz.func88 (by kernel_rfl) (by kernel_rfl)
  have e3 := enter_at Tryz.func89 (by kernel_rfl) (by kernel_rfl)
  have i0 := idx4_0
  have i1 := idx4_1
  have i2 := idx4_2
  have i3 := idx4_3
  go_enter Tryz.func45, Tryz.ntmps45
  go_wp2_with (refine wpList_load_row rfl 98 _ rfl w.heap.size rfl 98 A (0, 0) _ HB.out Tryz.underlying98 rfl HI.out ?_)
  refine wp_loop_rounds 5 ?_
  rw [rounds_succ]
  go_wp2_with fail
  refine (H0.out _ BX.out.low).mono ?_
  rintro e w1 ⟨rfl, hb⟩
  have BX := hid (BX.out.keep hb)
  clear hb
  by_cases g0 : v0 = 0
  case neg =>
    have c0 := ne_bool g0
    go_wp2_with fail
    go_ret
    exact ⟨ret_int (by unfold verV; simp [g0]), BX.out.low⟩
  subst g0
  go_wp2_with fail
  rw [rounds_succ]
  go_wp2_with fail
  refine (H1.out _ BX.out.low).mono ?_
  rintro e w2 ⟨rfl, hb⟩
  have BX := hid (BX.out.keep hb)
  clear hb
  by_cases g1 : v1 = 0
  case neg =>
    have c0 := ne_bool g1
    go_wp2_with fail
    go_ret
    exact ⟨ret_int (by unfold verV; simp [g1]), BX.out.low⟩
  subst g1
  go_wp2_with fail
  rw [rounds_succ]
  go_wp2_with fail
  refine (H2.out _ BX.out.low).mono ?_
  rintro e w3 ⟨rfl, hb⟩
  have BX := hid (BX.out.keep hb)
  clear hb
  by_cases g2 : v2 = 0
  case neg =>
    have c0 := ne_bool g2
    go_wp2_with fail
    go_ret
    exact ⟨ret_int (by unfold verV; simp [g2]), BX.out.low⟩
  subst g2
  go_wp2_with fail
  rw [rounds_succ]
  go_wp2_with fail
  refine (H3.out _ BX.out.low).mono ?_
  rintro e w4 ⟨rfl, hb⟩
  have BX := hid (BX.out.keep hb)
  clear hb
  by_cases g3 : v3 = 0
  case neg =>
    have c0 := ne_bool g3
    go_wp2_with fail
    go_ret
    exact ⟨ret_int (by unfold verV; simp [g3]), BX.out.low⟩
  subst g3
  go_wp2_with fail
  rw [rounds_succ]
  go_wp2_with fail
  go_ret
  exact ⟨rfl, BX.out.low⟩
end Go.Proofs.YtihbjimnjhfpeaaGreat
