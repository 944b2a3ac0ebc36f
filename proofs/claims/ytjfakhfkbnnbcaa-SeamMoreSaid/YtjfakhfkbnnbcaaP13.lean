/- Texts of this seat, one behind the other. -/
import Derived.Test.YtjfakhfkbnnbcaaP10
import Derived.Test.YtjfakhfkbnnbcaaP12
/- Walks of checksOf with goodBy's function, of held's function, of a closer's held: contracts. -/
namespace Go.Proofs.Ytjfakhfkbnnbcaa
open Go.RowKit Go.Shelf

theorem RowK3.keep {W w2 : World} {v : Value} {l : List Ck} (h : RowK3 W v l) (hb : Below W.heap.size W w2) : RowK3 w2 v l := by
  obtain ⟨a, b, o, cap, e, h1, h2, h3, h4⟩ := h
  exact ⟨a, b, o, cap, e, h1, h2, h3, fun k hk => ⟨keep_cell hb (h4 k hk).1, keep_cell hb (h4 k hk).2.1, keep_cell hb (h4 k hk).2.2⟩⟩
set_option maxRecDepth 20000 in
set_option maxHeartbeats 8000000 in
theorem checksG_any (nm : Nm) (v : Value) (l : List Sh) (g1 : Nat) (fv : Value) (w : World) (hr : RowH w v l) (hl : l.length ≤ 500) (hs : ∀ x ∈ l, shB x = true) (hv : w.cell? ⟨g1, 0, none⟩ = some fv) (hF : FaultR nm w fv) : Calls Try.prog 31 #[v, .func (.func 59) #[] #[.pointer (some ⟨g1, 0, none⟩)]] w fun e w' => ∃ u, e = .returned u ∧ OwnK w' w.heap.size u (cksL (goodB nm) l) ∧ Below w.heap.size w w' := by
  obtain ⟨i0, hi, hz0, hz1, hz2⟩ := infoK
  have HSB := hid hs
  have HGF := hid (fun (x : Sh) (W : World) (hx : shB x = true) (hb : Below w.heap.size w W) => goodF_any nm x fv g1 W hx (keep_cell hb hv) (hF.keep hb))
  clear hs hv hF
  have HR := hid (fun w1 (g : Below w.heap.size w w1) => hr.keep g)
  obtain ⟨va, vc, rfl⟩ := hr.shape
  obtain ⟨n, hn⟩ : ∃ n, n = l.length := ⟨_, rfl⟩
  have HN := hid hn
  have hn5 : n ≤ 500 := by omega
  rw [← hn] at HR ⊢
  clear hr hn hl
  have HN5 := hid hn5
  go_enter Try.func31, Try.ntmps31
  go_wp2_with (at_make; refine wpList_make_own _ rfl _ _ 56 rfl w.heap.size 75 i0 (.agg #[.int .i64 0, .int .i64 0, .bool false]) 3 Try.underlying56 hi hz0 hz1 _ _ _ n rfl rfl rfl (by have := HN5.out; rw [hz2]; omega) (by have := HN5.out; unfold maxLen; omega) (Nat.le_refl _) ?_; intro w1 hown1 hgrow1; have HO1 := hid hown1; have HB1 := hid ((Below.refl w.heap.size w).grown hgrow1 (Nat.le_refl _) (fun j e => by cases e)); clear hown1 hgrow1)
  go_wp2
  go_loopw [5, 13] (fun a t wr => ∃ k : Nat, k ≤ n ∧ t = .int .i64 (k : Int) ∧ Hid (OwnK wr w.heap.size a (cksL (goodB nm) (l.take k))) ∧ Hid (Below w.heap.size w wr)) (fun _ t _ => n - (intOf t).toNat)
  case atStart => exact ⟨0, Nat.zero_le _, rfl, HO1, HB1⟩
  case round =>
    obtain ⟨k, hk, rfl, hO, hB⟩ := hrel
    by_cases hlt : k < n
    · have hlt' : (k : Int) < n := by omega
      have hkl : k < l.length := by rw [← HN.out]; exact hlt
      obtain ⟨b, o, hva, hat⟩ := (HR.out _ hB.out).get (by omega)
      subst hva
      have HT := hid (cksL_take (G := goodB nm) hkl)
      obtain ⟨c0, c1, c2, c3, c4, c5, c6, c7, c8, c9⟩ := hat k hkl
      have HLK := hid (show (cksL (goodB nm) (l.take k)).length ≤ 500 by rw [cksL_len, List.length_take]; omega)
      have HXB := hid (HSB.out l[k] (List.getElem_mem hkl))
      generalize l[k] = x at *
      generalize cksL (goodB nm) (l.take k) = lo at *
      obtain ⟨gx, hgx⟩ : ∃ gx, gx = goodB nm x := ⟨_, rfl⟩
      rw [← hgx] at HT
      have HGX := hid hgx
      clear hgx
      obtain ⟨oa, oc, rfl⟩ := ownK_shape hO.out
      have HBX := hid (boxS_new wr x)
      have HB2 := hid (hB.out.alloc hB.out.size (.cells #[.int .i64 x.tk, .int .i64 x.hd, .int .i64 x.bh, .int .i64 x.ch, .int .i64 x.ht, .int .i64 x.ep, .int .i64 x.bp, .int .i64 x.wr, .int .i64 x.th, .int .i64 x.cs] 39))
      have HO2 := hid (World.ownsRow.alloc hO.out (.cells #[.int .i64 x.tk, .int .i64 x.hd, .int .i64 x.bh, .int .i64 x.ch, .int .i64 x.ht, .int .i64 x.ep, .int .i64 x.bp, .int .i64 x.wr, .int .i64 x.th, .int .i64 x.cs] 39))
      have HLT := hid hlt
      clear hlt hkl hat
      go_wp2
      clear c0 c1 c2 c3 c4 c5 c6 c7 c8 c9
      generalize hWW : World.alloc wr _ = W1
      have HBX : Hid (BoxS W1 wr.heap.size x) := by rw [← hWW]; exact HBX
      have HB2 : Hid (Below w.heap.size w W1) := by rw [← hWW]; exact HB2
      have HO2 : Hid (OwnK W1 w.heap.size (.slice oa lo.length oc) lo) := by rw [← hWW]; exact HO2
      clear hWW
      have HNE : Hid ((Value.slice oa lo.length oc).ownBlock ≠ some wr.heap.size) := fun e => by have := (World.ownsRow.lt hO.out _ e).2; omega
      go_region_held3 (fun w' => World.cell? (w') ⟨wr.heap.size, 0, none⟩ = some (.int .i64 x.tk) ∧ World.cell? (w') ⟨wr.heap.size, 1, none⟩ = some (.int .i64 x.hd) ∧ World.cell? (w') ⟨wr.heap.size, 2, none⟩ = some (.int .i64 x.bh) ∧ World.cell? (w') ⟨wr.heap.size, 3, none⟩ = some (.int .i64 x.ch) ∧ World.cell? (w') ⟨wr.heap.size, 4, none⟩ = some (.int .i64 x.ht) ∧ World.cell? (w') ⟨wr.heap.size, 5, none⟩ = some (.int .i64 x.ep) ∧ World.cell? (w') ⟨wr.heap.size, 6, none⟩ = some (.int .i64 x.bp) ∧ World.cell? (w') ⟨wr.heap.size, 7, none⟩ = some (.int .i64 x.wr) ∧ World.cell? (w') ⟨wr.heap.size, 8, none⟩ = some (.int .i64 x.th) ∧ World.cell? (w') ⟨wr.heap.size, 9, none⟩ = some (.int .i64 x.cs)) (first | exact ck_new HBX | assumption | exact ck_keep ((Below.refl _ _).alloc (Nat.le_refl _) _) (by assumption) | exact ck_keep (by assumption) (by assumption))
        ((first
          | (go_at_call 59; refine Calls.mono (HGF.out x _ HXB.out HB2.out.drew) ?_; rintro e wk ⟨rfl, hb⟩; rw [← HGX.out]; have HBC := hid (bstep (Below.refl W1.heap.size W1).drew (Nat.le_refl _) hb))
          | (refine step_own rfl (.tmp 17) (.tmp 26) 56 rfl w.heap.size 75 i0 (.agg #[.int .i64 0, .int .i64 0, .bool false]) 3 24 Try.underlying56 hi hz0 hz1 hz2 rfl (by decide) _ lo.length (ckvs lo) rfl (World.ownsRow.alloc (HO2.out.keep HBC.out) _) ⟨wk.heap.size, 0, none⟩ 1 1 [.int .i64 x.tk, .int .i64 x.hd, .bool gx] rfl rfl (cellK rfl) oneK (by have := HLK.out; unfold maxLen; omega) (by have := HLK.out; omega) (by have h := HBC.out.size; have := HB2.out.size; simp; omega) ?_; intro v5 w5 hown5 hgrow5; have hS5 := ck_grow hgrow5 HNE.out (by assumption); have HO5 := hid (OwnK.app (c := ⟨x.tk, x.hd, gx⟩) hown5); have HB5 := hid (belowK (bstep HB2.out HB2.out.size HBC.out) (HO2.out.keep HBC.out) (Nat.le_refl _) hgrow5); clear hown5 hgrow5)))
      go_wp2
      go_roundw
      case rel => exact ⟨k + 1, HLT.out, by go_num, by rw [HT.out]; exact HO5, HB5⟩
      case measure => have := HLT.out; simp [intOf]; omega
    · obtain rfl : k = n := by omega
      have HE : Hid (OwnK wr w.heap.size u5 (cksL (goodB nm) l)) := by
        have h := hO.out
        rw [HN.out, List.take_length] at h
        exact h
      go_wp2
      go_ret
      exact ⟨_, rfl, HE.out, hB.out⟩

/-- What held tells of a pair. -/
def hdF (p : Ck × Ck) : Pr := if p.1.gd && p.2.gd then ⟨0, 0⟩ else ⟨p.1.tk, p.2.tk⟩
theorem held1_any (p q : Ck) (w : World) : Calls Try.prog 60 #[.agg (ckA p), .agg (ckA q)] w fun e w' => e = .returned (.agg #[.int .i64 (hdF (p, q)).x, .int .i64 (hdF (p, q)).y]) ∧ Below w.heap.size w w' := by
  obtain ⟨pt, ph, pg⟩ := p
  obtain ⟨qt, qh, qg⟩ := q
  have hb (v : Obj) : Below w.heap.size w (((w.alloc (.cells #[.int .i64 pt, .int .i64 ph, .bool pg] 75)).alloc (.cells #[.int .i64 qt, .int .i64 qh, .bool qg] 75)).alloc v) := (((Below.refl _ _).alloc (Nat.le_refl _) _).alloc (by simp) _).alloc (by simp; omega) _
  cases pg
  · simp only [ckA]
    go_enter Try.func60, Try.ntmps60
    go_wp2
    refine bodyPost_ret (v := .agg #[.int .i64 pt, .int .i64 qt]) (by simp [results, Try.results60, go_sem]) rfl ⟨rfl, ?_⟩
    exact hb _
  cases qg
  · simp only [ckA]
    go_enter Try.func60, Try.ntmps60
    go_wp2
    refine bodyPost_ret (v := .agg #[.int .i64 pt, .int .i64 qt]) (by simp [results, Try.results60, go_sem]) rfl ⟨rfl, ?_⟩
    exact hb _
  · simp only [ckA]
    go_enter Try.func60, Try.ntmps60
    go_wp2
    refine bodyPost_ret (v := .agg #[.int .i64 0, .int .i64 0]) (by simp [results, Try.results60, go_sem]) rfl ⟨rfl, ?_⟩
    exact hb _
set_option maxRecDepth 20000 in
set_option maxHeartbeats 4000000 in
theorem held_any (l : List Ck) (v1 v2 : Value) (H : List Int) (b E : Int) (w : World) (hr1 : RowK3 w v1 l) (hr2 : RowI w v2 H) (hl : l.length ≤ 600) (hH : H.length ≤ 12) : Calls Try.prog 33 #[.agg #[v1, v2], .int .i64 b, .int .i64 E] w (UniP (allT hdF b E l H) w) := by
  have HB0 := hid ((Below.refl w.heap.size w).alloc (Nat.le_refl _) (.cells #[v1, v2] 61))
  have hk := hr1.keep HB0.out
  have hi := hr2.keep HB0.out
  obtain ⟨a1, b1, o1, c1, rfl, -⟩ := hr1
  obtain ⟨a2, c2, rfl⟩ := hr2.shape
  have HS := hid (stretches_any l _ _ H b E 60 #[] hdF _ hk hi hl hH
    (fun args W => enter_at Try.func60 (by kernel_rfl) (by kernel_rfl) args W)
    (fun p W _ _ => held1_any p.1 p.2 W))
  clear hk hi hr2
  go_enter Try.func33, Try.ntmps33
  go_wp2_with fail
  refine HS.out.mono ?_
  rintro e w6 ⟨u, m, rfl, hm, ho, hb⟩
  have HM := hid hm
  have HO := hid ho
  have HB6 := hid (bstep HB0.out HB0.out.size hb)
  obtain ⟨ua, uc, rfl⟩ := ownX_shape ho
  clear hm ho hb HS
  go_wp2_with fail
  go_ret
  exact ⟨_, m, rfl, HM.out, HO.out.low HB0.out.size, HB6.out⟩
end Go.Proofs.Ytjfakhfkbnnbcaa

/- Plain facts of what is held: the reference's stretches of a head have the ticks that are told of its pairs. -/
namespace Go.Proofs.Ytjfakhfkbnnbcaa
open Go.RowKit

/-- A head's checks. -/
def ofH (h : Int) (l : List Ck) : List Ck := l.filter fun c => decide (c.hd = h)
/-- The i-th pair of a head's checks. -/
def prA (h : Int) (F : List Ck) (i : Nat) : Ck := if i = 0 then ckLong h else F.getD (i - 1) (ckLong h)
def prZ (h : Int) (F : List Ck) (i : Nat) : Ck := F.getD i (ckNever h)
theorem prF_of (h : Int) : ∀ (l : List Ck) (n : Nat), l.length = n → (prF h l).1 = (List.range (ofH h l).length).map (fun i => (prA h (ofH h l) i, prZ h (ofH h l) i)) ∧ (prF h l).2 = prA h (ofH h l) (ofH h l).length
  | l, 0, hn => by
    obtain rfl := List.length_eq_zero_iff.1 hn
    exact ⟨rfl, rfl⟩
  | l, n + 1, hn => by
    rcases List.eq_nil_or_concat l with rfl | ⟨l0, c, hl⟩
    · simp at hn
    · rw [List.concat_eq_append] at hl
      subst hl
      obtain ⟨i1, i2⟩ := prF_of h l0 n (by simpa using hn)
      have e : prF h (l0 ++ [c]) = prS h (prF h l0) c := by simp [prF]
      rw [e]
      by_cases g : c.hd = h
      · have eo : ofH h (l0 ++ [c]) = ofH h l0 ++ [c] := by simp [ofH, g]
        rw [eo, prS, if_pos g]
        refine ⟨?_, ?_⟩
        · rw [List.length_append, List.length_singleton, List.range_succ, List.map_append, i1, i2]
          have q1 : (List.range (ofH h l0).length).map (fun i => (prA h (ofH h l0) i, prZ h (ofH h l0) i)) = (List.range (ofH h l0).length).map (fun i => (prA h (ofH h l0 ++ [c]) i, prZ h (ofH h l0 ++ [c]) i)) := by
            refine List.map_congr_left fun i hi => ?_
            have hi := List.mem_range.1 hi
            simp only [prA, prZ, List.getD]
            rw [List.getElem?_append_left hi]
            by_cases h0 : i = 0
            · simp [h0]
            · rw [if_neg h0, if_neg h0, List.getElem?_append_left (by omega)]
          have q2 : (prA h (ofH h l0) (ofH h l0).length, c) = (prA h (ofH h l0 ++ [c]) (ofH h l0).length, prZ h (ofH h l0 ++ [c]) (ofH h l0).length) := by
            simp only [prA, prZ, List.getD]
            by_cases h0 : (ofH h l0).length = 0
            · simp [List.length_eq_zero_iff.1 h0]
            · rw [if_neg h0, if_neg h0, List.getElem?_append_left (by omega)]
              simp
          simp only [List.map_cons, List.map_nil]
          rw [q1, q2]
        · simp [prA, List.getD]
      · have eo : ofH h (l0 ++ [c]) = ofH h l0 := by simp [ofH, g]
        rw [eo, prS, if_neg g]
        exact ⟨i1, i2⟩
theorem prL_of (h : Int) (l : List Ck) : prL h l = (List.range ((ofH h l).length + 1)).map fun i => (prA h (ofH h l) i, prZ h (ofH h l) i) := by
  obtain ⟨i1, i2⟩ := prF_of h l _ rfl
  unfold prL
  rw [List.range_succ, List.map_append, i1, i2]
  simp [prZ, List.getD]
/-- The reference's walk over a head's checks. -/
def bdT (F : List Ck) (E : Int) (i : Nat) : Int := min (if i < F.length then (F.getD i (ckLong 0)).tk else E) E
def bdF (F : List Ck) (b E : Int) : Nat → Int
  | 0 => b
  | i + 1 => max (bdF F b E i) (bdT F E i)
def bdS (F : List Ck) (i : Nat) : Bool := decide (0 < i) && decide (i < F.length) && (F.getD (i - 1) (ckLong 0)).gd && (F.getD i (ckLong 0)).gd
def bdO (F : List Ck) (b E : Int) : Nat → List Pr
  | 0 => []
  | i + 1 => bdO F b E i ++ (if !bdS F i && decide (bdF F b E i < bdT F E i) then [⟨bdF F b E i, bdT F E i⟩] else [])
theorem bdO_len (F : List Ck) (b E : Int) : ∀ k, (bdO F b E k).length ≤ k
  | 0 => Nat.le_refl _
  | k + 1 => by
    have := bdO_len F b E k
    simp only [bdO, List.length_append]
    split <;> simp <;> omega
theorem bdO_in {F : List Ck} {b E t : Int} : ∀ {k : Nat}, inP (bdO F b E k) t ↔ ∃ i, i < k ∧ bdS F i = false ∧ bdF F b E i ≤ t ∧ t < bdT F E i
  | 0 => by simp [bdO, inP_nil]
  | k + 1 => by
    simp only [bdO]
    rw [inP_app, bdO_in (k := k)]
    constructor
    · rintro (⟨i, h1, h2⟩ | h)
      · exact ⟨i, by omega, h2⟩
      · split at h
        · rename_i g
          rw [Bool.and_eq_true] at g
          rw [inP_one] at h
          exact ⟨k, by omega, by simpa using g.1, h⟩
        · exact (inP_nil h).elim
    · rintro ⟨i, h1, h2, h3, h4⟩
      by_cases e : i = k
      · subst e
        refine .inr ?_
        rw [if_pos (by rw [h2]; simp; omega), inP_one]
        exact ⟨h3, h4⟩
      · exact .inl ⟨i, by omega, h2, h3, h4⟩
def AscK (F : List Ck) : Prop := F.Pairwise fun a c => a.tk ≤ c.tk
theorem bdF_at {F : List Ck} {b E : Int} (ha : AscK F) : ∀ {i : Nat} (h : i < F.length), bdF F b E (i + 1) = max b (min F[i].tk E)
  | 0, h => by
    simp only [bdF, bdT, if_pos h]
    simp [List.getD, h]
  | i + 1, h => by
    have ih := bdF_at (b := b) (E := E) ha (i := i) (by omega)
    have hp := List.pairwise_iff_getElem.1 ha i (i + 1) (by omega) h (by omega)
    rw [bdF, ih]
    simp only [bdT, if_pos h]
    have e : F.getD (i + 1) (ckLong 0) = F[i + 1] := by simp [List.getD, h]
    rw [e]
    omega
theorem getD_any {F : List Ck} {i : Nat} {c d : Ck} (h : i < F.length) : F.getD i c = F.getD i d := by simp [List.getD, h]
theorem hd_in {h b E t : Int} {F : List Ck} (ha : AscK F) (hb : 0 ≤ b) (hE : E ≤ 100000000) (i : Nat) (hi : i ≤ F.length) : (bdS F i = false ∧ bdF F b E i ≤ t ∧ t < bdT F E i) ↔ (max (hdF (prA h F i, prZ h F i)).x b ≤ t ∧ t < min (hdF (prA h F i, prZ h F i)).y E) := by
  have hT : bdT F E i = min (prZ h F i).tk E := by
    unfold bdT prZ
    by_cases hl : i < F.length
    · rw [if_pos hl, getD_any hl]
    · rw [if_neg hl]
      have e : F.getD i (ckNever h) = ckNever h := by simp [List.getD]; rw [List.getElem?_eq_none (by omega)]; rfl
      rw [e]
      show min E E = min 100000001 E
      omega
  have hS : bdS F i = ((prA h F i).gd && (prZ h F i).gd) := by
    unfold bdS prA prZ
    by_cases h0 : i = 0
    · subst h0; simp [ckLong]
    · rw [if_neg h0]
      by_cases hl : i < F.length
      · rw [getD_any (c := ckLong 0) (d := ckLong h) (i := i - 1) (by omega), getD_any (c := ckLong 0) (d := ckNever h) hl]
        have h1 : decide (0 < i) = true := decide_eq_true (by omega)
        have h2 : decide (i < F.length) = true := decide_eq_true hl
        rw [h1, h2]; simp
      · have e : F.getD i (ckNever h) = ckNever h := by simp [List.getD]; rw [List.getElem?_eq_none (by omega)]; rfl
        have h2 : decide (i < F.length) = false := decide_eq_false hl
        rw [e, h2]
        simp [ckNever]
  have hF : t < E → (bdF F b E i ≤ t ↔ max (prA h F i).tk b ≤ t) := fun hlt => by
    rcases i with _ | i
    · show b ≤ t ↔ max (-100000000) b ≤ t
      omega
    · rw [bdF_at ha (by omega)]
      have e : prA h F (i + 1) = F[i] := by simp [prA, List.getD]; rw [List.getElem?_eq_getElem (by omega)]; rfl
      rw [e]
      omega
  rw [hT, hS]
  unfold hdF
  cases hg : (prA h F i).gd && (prZ h F i).gd
  · simp only [Bool.false_eq_true, if_false]
    constructor
    · rintro ⟨-, h1, h2⟩
      exact ⟨(hF (by omega)).1 h1, h2⟩
    · rintro ⟨h1, h2⟩
      exact ⟨trivial, (hF (by omega)).2 h1, h2⟩
  · simp only [if_true]
    constructor
    · rintro ⟨h1, -⟩; cases h1
    · rintro ⟨h1, h2⟩; exfalso; omega
/-- The ticks of a head that are held, told both ways. -/
theorem held_same {h b E t : Int} {l : List Ck} (ha : AscK l) (hb : 0 ≤ b) (hE : E ≤ 100000000) : inP (tellL hdF b E (prL h l)) t ↔ inP (bdO (ofH h l) b E ((ofH h l).length + 1)) t := by
  have ha' : AscK (ofH h l) := List.Pairwise.filter _ ha
  rw [prL_of, bdO_in]
  unfold tellL inP
  simp only [List.map_map, List.mem_map, List.mem_range, Function.comp]
  constructor
  · rintro ⟨p, ⟨i, hi, rfl⟩, h1⟩
    exact ⟨i, hi, (hd_in ha' hb hE i (by omega)).2 h1⟩
  · rintro ⟨i, hi, h1⟩
    exact ⟨_, ⟨i, hi, rfl⟩, (hd_in ha' hb hE i (by omega)).1 h1⟩
theorem shs_asc {G : Sh → Bool} {l : List Sh} (h : shsB l = true) : AscK (cksL G l) := by
  have hs : ∀ i (hi : i + 1 < l.length), l[i].tk ≤ l[i + 1].tk := fun i hi => by
    unfold shsB at h
    simp only [Bool.and_eq_true] at h
    have h1 := allB_iff.1 h.2 (i + 1) hi
    unfold oneS at h1
    simp only [Bool.and_eq_true, Nat.add_sub_cancel] at h1
    have e1 : l.getD (i + 1) shD = l[i + 1] := by simp [List.getD, hi]
    have e2 : l.getD i shD = l[i] := by simp [List.getD]; rw [List.getElem?_eq_getElem (by omega)]; rfl
    rw [e1, e2] at h1
    have h2 := h1.2
    simp [befB] at h2
    omega
  unfold AscK cksL
  rw [List.pairwise_map]
  rw [List.pairwise_iff_getElem]
  intro i j hi hj hij
  obtain ⟨d, rfl⟩ : ∃ d, j = i + 1 + d := ⟨j - i - 1, by omega⟩
  clear hij
  induction d with
  | zero => exact hs i hj
  | succ d ih =>
    have := ih (by omega)
    have h2 := hs (i + 1 + d) (by omega)
    simp only at this h2 ⊢
    have e : i + 1 + (d + 1) = i + 1 + d + 1 := by omega
    simp only [e]
    omega
theorem uni_eq {u v l m : List Pr} (h : Uni u l) (g : Uni v m) (hs : ∀ t, inP l t ↔ inP m t) : u = v := canon_uniq h.can g.can fun t => (h.same t).trans ((hs t).trans (g.same t).symm)
theorem allT_in {f : Ck × Ck → Pr} {b E t : Int} {l : List Ck} {H : List Int} : inP (allT f b E l H) t ↔ ∃ h ∈ H, inP (tellL f b E (prL h l)) t := by
  unfold allT inP
  simp only [List.mem_flatMap]
  constructor
  · rintro ⟨p, ⟨h, hh, hp⟩, h1⟩; exact ⟨h, hh, p, hp, h1⟩
  · rintro ⟨h, hh, p, hp, h1⟩; exact ⟨p, ⟨h, hh, hp⟩, h1⟩
theorem cks_ofH (G : Sh → Bool) (h : Int) (l : List Sh) : ofH h (cksL G l) = cksL G (l.filter fun x => decide (x.hd = h)) := by
  unfold ofH cksL
  rw [List.filter_map]
  rfl
end Go.Proofs.Ytjfakhfkbnnbcaa
