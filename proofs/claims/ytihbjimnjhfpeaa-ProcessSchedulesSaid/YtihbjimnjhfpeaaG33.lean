/- Texts of this seat, one behind the other. -/
import Derived.Test.YtihbjimnjhfpeaaPci
import Derived.Test.YtihbjimnjhfpeaaG12
import Derived.Test.YtihbjimnjhfpeaaPch
/- Places, Lethality, Sterile whatever comes in: contracts. -/
namespace Go.Proofs.Ytihbjimnjhfpeaa
open Go.RowKit Go.Lib

theorem kl_of {q : Kl} (h : q.vB = true) : ∃ Z : Nat, q.z = Z ∧ Lt.validB q.s.data.toList q.r Z q.d q.g = true := by
  have hv : Lt.validB q.s.data.toList q.r q.z q.d q.g = true := h
  have hz := (Lt.validB_iff.1 hv).2.2.1
  obtain ⟨Z, e⟩ := Int.eq_ofNat_of_zero_le (show 0 ≤ q.z by omega)
  exact ⟨Z, e, by rw [← e]; exact hv⟩
theorem places_all (r l a b k a2 b2 : Int) (w : World) (q : Kl) (t : Int) (v : Value) (p : List Int) (hs : q.s.size ≤ maxLen) (hl : RowI w v p) (hpm : p.length ≤ maxLen) :
    Calls Try.prog 32 #[.agg #[.int .i64 r, .int .i64 l, .int .i64 a, .int .i64 b, .int .i64 k, .int .i64 a2, .int .i64 b2], .agg #[.string q.s, .int .i64 q.r, .int .i64 q.z, .int .i64 q.d, .int .i64 q.g], .int .i64 t, v] w (PlacesP (sumsO r l a b k a2 b2 q t p) (chk4 (canB r l a b k a2 b2) q.vB t p) w) := by
  by_cases h : chk4 (canB r l a b k a2 b2) q.vB t p = 0
  · obtain ⟨hc, hk, ho, hop, hlen⟩ := chk4_zero h
    obtain ⟨c, hcv, rfl, rfl, rfl, rfl, rfl, rfl, rfl⟩ := canB_cn hc
    obtain ⟨Z, hz, hv⟩ := kl_of hk
    have hso : sumsO c.R c.L c.A c.B c.K c.A2 c.B2 q t p = (dishR c (fun x => Lt.Pm.rateD q.r Z (x / 250)) (dish0 c t) p).2 := by
      unfold sumsO; rw [if_pos h, cnOf_cn, hz]
    rw [hso, h, hz]
    exact places_ok c q.s q.r q.d q.g t Z v p w hs hcv hv ho hop hlen hl
  · rw [sumsO_no h]
    exact places_err r l a b k a2 b2 w q t v p hs hl hpm h
theorem sumsO_len {r l a b k a2 b2 : Int} {q : Kl} {t : Int} {p : List Int} (h : chk4 (canB r l a b k a2 b2) q.vB t p = 0) : (sumsO r l a b k a2 b2 q t p).length = (cnOf r l a b k a2 b2).P ∧ 1 ≤ (cnOf r l a b k a2 b2).P ∧ (cnOf r l a b k a2 b2).P ≤ 48 := by
  obtain ⟨hc, hk, ho, hop, hlen⟩ := chk4_zero h
  obtain ⟨c, hcv, rfl, rfl, rfl, rfl, rfl, rfl, rfl⟩ := canB_cn hc
  unfold sumsO
  rw [if_pos h, cnOf_cn]
  exact ⟨((dish0_good ho).run hcv.ok hop).len, hcv.ok.p.1, hcv.ok.p.2⟩
/-- What Lethality hands back: the slowest place, and its lethality. -/
def lowO (S : List Nat) : Int := if S = [] then 0 else minA (ivN S)
def slowO (S : List Nat) : Int := if S = [] then 0 else (idxA (ivN S) (minA (ivN S)) : Nat)
set_option maxRecDepth 20000 in
set_option maxHeartbeats 4000000 in
theorem leth_any (r l a b k a2 b2 : Int) (w : World) (q : Kl) (t : Int) (v : Value) (p : List Int) (hs : q.s.size ≤ maxLen) (hl : RowI w v p) (hpm : p.length ≤ maxLen) :
    Calls Try.prog 20 #[.agg #[.int .i64 r, .int .i64 l, .int .i64 a, .int .i64 b, .int .i64 k, .int .i64 a2, .int .i64 b2], .agg #[.string q.s, .int .i64 q.r, .int .i64 q.z, .int .i64 q.d, .int .i64 q.g], .int .i64 t, v] w fun e w' => e = .returned (.tuple #[.int .i64 (slowO (sumsO r l a b k a2 b2 q t p)), .int .i64 (lowO (sumsO r l a b k a2 b2 q t p)), .int .i64 (chk4 (canB r l a b k a2 b2) q.vB t p)]) ∧ Below w.heap.size w w' := by
  have HX := hid (box2_start (w := w) (A := #[.int .i64 r, .int .i64 l, .int .i64 a, .int .i64 b, .int .i64 k, .int .i64 a2, .int .i64 b2]) (B := #[.string q.s, .int .i64 q.r, .int .i64 q.z, .int .i64 q.d, .int .i64 q.g]) (T := 31) (T' := 33) (fz := (0, 0)) (fz' := (0, 0)))
  have HL := hid (fun w1 (g : Below w.heap.size w w1) => hl.keep g)
  obtain ⟨a0, cap, rfl⟩ := hl.shape
  have HP := hid (fun W h => places_all r l a b k a2 b2 W q t (.slice a0 p.length cap) p hs h hpm)
  have HLN := hid (fun h => sumsO_len (r := r) (l := l) (a := a) (b := b) (k := k) (a2 := a2) (b2 := b2) (q := q) (t := t) (p := p) h)
  have HNO := hid (fun h => sumsO_no (r := r) (l := l) (a := a) (b := b) (k := k) (a2 := a2) (b2 := b2) (q := q) (t := t) (p := p) h)
  generalize sumsO r l a b k a2 b2 q t p = S at *
  generalize chk4 (canB r l a b k a2 b2) q.vB t p = ce at *
  clear hl hs hpm
  by_cases hce : ce = 0
  · obtain ⟨h1, h2, h3⟩ := HLN.out hce
    subst hce
    have h0 : 0 < (ivN S).length := by rw [ivN_len]; omega
    have hne : S ≠ [] := fun e => by rw [e] at h1; simp at h1; omega
    have HLO := hid (show lowO S = minA (ivN S) by unfold lowO; rw [if_neg hne])
    have HSL := hid (show slowO S = (idxA (ivN S) (minA (ivN S)) : Nat) by unfold slowO; rw [if_neg hne])
    have HMN := hid (fun (W : World) (u : Value) (h : RowI W u (ivN S)) => minA_any u (ivN S) W h h0 (by rw [ivN_len]; omega))
    have HIX := hid (fun (W : World) (u : Value) (h : RowI W u (ivN S)) => index_any u (ivN S) (minA (ivN S)) W h (minA_mem h0) (by rw [ivN_len]; omega))
    generalize minA (ivN S) = mn at *
    clear h0 h1 h2 h3 hne
    go_enter Try.func20, Try.ntmps20
    go_wp2_with fail
    refine (HP.out _ (HL.out _ HX.out.low)).mono ?_
    rintro e w1 ⟨ub, ud, rfl, hr, hb⟩
    have HX := hid (HX.out.keep hb)
    have HR := hid hr
    clear hb hr
    go_wp2_with fail
    refine (HMN.out _ _ HR.out).mono ?_
    rintro e w2 ⟨rfl, rfl⟩
    go_wp2_with fail
    refine (HIX.out _ _ HR.out).mono ?_
    rintro e w2 ⟨rfl, rfl⟩
    go_wp2_with fail
    refine bodyPost_ret (v := .tuple #[.int .i64 (idxA (ivN S) mn : Nat), .int .i64 mn, .int .i64 0]) (by simp [results, Try.results20, go_sem]) rfl ⟨?_, HX.out.low⟩
    rw [HSL.out, HLO.out]
  · have hS := HNO.out hce
    have hc1 : (ce != 0) = true := by simpa using hce
    subst hS
    clear hce HNO
    go_enter Try.func20, Try.ntmps20
    go_wp2_with fail
    refine (HP.out _ (HL.out _ HX.out.low)).mono ?_
    rintro e w1 ⟨ub, ud, rfl, hr, hb⟩
    have HX := hid (HX.out.keep hb)
    clear hb hr
    go_wp2_with fail
    refine bodyPost_ret (v := .tuple #[.int .i64 0, .int .i64 0, .int .i64 ce]) (by simp [results, Try.results20, go_sem]) rfl ⟨?_, HX.out.low⟩
    simp [slowO, lowO]
/-- Whether a can is sterile. -/
def sterO (q : Kl) (f ce : Int) : Bool := decide (ce = 0) && decide (q.g * (q.d * 1000000) ≤ f)
end Go.Proofs.Ytihbjimnjhfpeaa

/- Walk of enough and of a search's sterile: contracts, for a meter whose map stays. -/
namespace Go.Proofs.Ytihbjimnjhfpeaa
open Go.RowKit Go.Lib

/-- What the rate stands on says what the map at mb holds. -/
def Fix (I : World → Prop) (mb : Nat) : Prop := ∃ o : Obj, ∀ W, I W → W.heap[mb]? = some o
theorem Fix.low {I : World → Prop} {mb : Nat} {W W' : World} (h : Fix I mb) (h1 : I W) (h2 : I W') (hg : W.grownBy W' (some mb)) : Below W.heap.size W W' := by
  obtain ⟨o, ho⟩ := h
  refine ⟨hg.os, hg.tape, hg.output, hg.size, fun k hk => ?_⟩
  by_cases e : k = mb
  · subst e; rw [ho _ h1, ho _ h2]
  · exact hg.block k hk (fun h => e (Option.some.inj h))
/-- The sums of a dish are what is needed. -/
def enD (need : Int) (D : Dish) : Bool := decide (need ≤ minA (ivN D.2))
def RawEn (c : Cn) (need : Int) (F : Nat) (lb : Array Value) (D : Dish) (ua ub : Option Addr) (uc ud : Nat) (w W : World) : Prop :=
  W.cell? ⟨w.heap.size, 7, none⟩ = some (.int .i64 need) ∧ W.cell? ⟨w.heap.size + 1, 2, none⟩ = some (.slice ub D.2.length ud) ∧
  B2 w W 54 63 #[.int .i64 (c.R : Int), .int .i64 (c.L : Int), .int .i64 c.A, .int .i64 c.B, .int .i64 c.K, .int .i64 c.A2, .int .i64 c.B2, .int .i64 need, .func (.func F) #[] lb] #[.slice ua D.1.1.length uc, .bool D.1.2, .slice ub D.2.length ud] ∧ RowI W (.slice ub D.2.length ud) (ivN D.2)
theorem rawEn {c : Cn} {need : Int} {F : Nat} {lb : Array Value} {D : Dish} {ua ub : Option Addr} {uc ud : Nat} {w W : World} (h : B2 w W 54 63 #[.int .i64 (c.R : Int), .int .i64 (c.L : Int), .int .i64 c.A, .int .i64 c.B, .int .i64 c.K, .int .i64 c.A2, .int .i64 c.B2, .int .i64 need, .func (.func F) #[] lb] #[.slice ua D.1.1.length uc, .bool D.1.2, .slice ub D.2.length ud]) (hr : RowI W (.slice ub D.2.length ud) (ivN D.2)) : RawEn c need F lb D ua ub uc ud w W :=
  ⟨cell_of_row _ _ 7 _ _ _ h.one, cell_of_row _ _ 2 _ _ _ h.two, h, hr⟩
set_option maxRecDepth 20000 in
set_option maxHeartbeats 4000000 in
theorem enough_any (c : Cn) (need : Int) (F : Nat) (lb : Array Value) (D : Dish) (ua ub : Option Addr) (uc ud : Nat) (w : World) (h0 : 0 < D.2.length) (h1 : D.2.length ≤ 48) (hs : RowI w (.slice ub D.2.length ud) (ivN D.2)) :
    Calls Try.prog 60 #[.agg #[.int .i64 (c.R : Int), .int .i64 (c.L : Int), .int .i64 c.A, .int .i64 c.B, .int .i64 c.K, .int .i64 c.A2, .int .i64 c.B2, .int .i64 need, .func (.func F) #[] lb], .agg #[.slice ua D.1.1.length uc, .bool D.1.2, .slice ub D.2.length ud]] w fun e w' => e = .returned (.bool (enD need D)) ∧ Below w.heap.size w w' := by
  have HX := hid (b2_start (w := w) (T1 := 54) (T2 := 63) (A := #[.int .i64 (c.R : Int), .int .i64 (c.L : Int), .int .i64 c.A, .int .i64 c.B, .int .i64 c.K, .int .i64 c.A2, .int .i64 c.B2, .int .i64 need, .func (.func F) #[] lb]) (B := #[.slice ua D.1.1.length uc, .bool D.1.2, .slice ub D.2.length ud]))
  have HMN := hid (fun (W : World) (h : RowI W (.slice ub D.2.length ud) (ivN D.2)) => minA_any _ (ivN D.2) W h (by rw [ivN_len]; omega) (by rw [ivN_len]; omega))
  have HL := hid (fun W (g : Below w.heap.size w W) => hs.keep g)
  unfold enD
  generalize minA (ivN D.2) = mn at *
  clear hs h0 h1
  go_enter Try.func60, Try.ntmps60
  go_wp2_with fail
  have HL2 := hid (HL.out _ HX.out.low)
  refine wp_region_sink (S := RawEn c need F lb D ua ub uc ud w) 6 (by kernel_rfl) (by kernel_rfl) (by kernel_rfl) (by kernel_rfl) (rawEn (HX.out.keep (Below.refl _ _).drew) (HL2.out.keep (Below.refl _ _).drew)) (fun hS0 => ?_)
  refine wpAnyH_take (i := 0) (v := ?_) rfl (by kernel_rfl) (by kernel_rfl) (by kernel_rfl) (fun _ _ _ h => h) (Or.inl ⟨by rfl, ?_⟩) hS0 ?_
  rotate_left
  · intro w' hSw
    obtain ⟨q0, q1, _⟩ := hSw
    go_simp
    try with_reducible rfl
  try simp only [Act.put]
  try simp only [List.setIfInBounds_toArray]
  try simp only [List.set_cons_zero, List.set_cons_succ]
  refine wpAnyH_take (i := 1) (v := ?_) rfl (by kernel_rfl) (by kernel_rfl) (by kernel_rfl) (fun _ _ _ h => h) (Or.inl ⟨by rfl, ?_⟩) hS0 ?_
  rotate_left
  · intro w' hSw
    obtain ⟨q0, q1, _⟩ := hSw
    go_simp
    try with_reducible rfl
  try simp only [Act.put]
  try simp only [List.setIfInBounds_toArray]
  try simp only [List.set_cons_zero, List.set_cons_succ]
  refine wpAnyH_take (i := 3) (v := ?_) rfl (by kernel_rfl) (by kernel_rfl) (by kernel_rfl) (fun _ _ _ h => h) (Or.inl ⟨by rfl, ?_⟩) hS0 ?_
  rotate_left
  · intro w' hSw
    obtain ⟨q0, q1, _⟩ := hSw
    go_simp
    try with_reducible rfl
  try simp only [Act.put]
  try simp only [List.setIfInBounds_toArray]
  try simp only [List.set_cons_zero, List.set_cons_succ]
  refine wpAnyH_take (i := 4) (v := ?_) rfl (by kernel_rfl) (by kernel_rfl) (by kernel_rfl) (fun _ _ _ h => h) (Or.inl ⟨by rfl, ?_⟩) hS0 ?_
  rotate_left
  · intro w' hSw
    obtain ⟨q0, q1, _⟩ := hSw
    go_simp
    try with_reducible rfl
  try simp only [Act.put]
  try simp only [List.setIfInBounds_toArray]
  try simp only [List.set_cons_zero, List.set_cons_succ]
  (refine wpAnyH_ready (rs := [2]) (by kernel_rfl) (by simp) ?_)
  refine AllReadyH.cons rfl (fun K hK => ?_) AllReadyH.nil
  go_simp
  refine (HMN.out _ hS0.2.2.2).mono ?_
  rintro e w5 ⟨rfl, rfl⟩
  (refine hK.out _ _ (hS0) (fun hS1 => ?_); clear hK K)
  refine wpAnyH_take (i := 5) (v := ?_) rfl (by kernel_rfl) (by kernel_rfl) (by kernel_rfl) (fun _ _ _ h => h) (Or.inl ⟨by rfl, ?_⟩) hS1 ?_
  rotate_left
  · intro w' hSw
    obtain ⟨q0, q1, _⟩ := hSw
    go_simp
    try with_reducible rfl
  try simp only [Act.put]
  try simp only [List.setIfInBounds_toArray]
  try simp only [List.set_cons_zero, List.set_cons_succ]
  refine wpAnyH_done (by kernel_rfl) ?_ _
  have HX9 := hid hS1.2.2.1
  refine sink_last rfl (fun K hK => ?_)
  go_simp
  refine hK.out _ _ ?_
  clear hK K
  go_wp2_with fail
  refine bodyPost_ret (v := .bool (decide (need ≤ mn))) (by simp [results, Try.results60, go_sem]) rfl ⟨rfl, HX9.out.low⟩

/-- The dish after n ticks in a bath. -/
def afN (c : Cn) (f : Int → Nat) (D : Dish) (b : Int) (n : Nat) : Dish := dishR c f D (List.replicate n b)
theorem afN_zero (c : Cn) (f : Int → Nat) (D : Dish) (b : Int) : afN c f D b 0 = D := dishR_nil c f D
theorem afN_succ (c : Cn) (f : Int → Nat) (D : Dish) (b : Int) (n : Nat) : afN c f D b (n + 1) = dishT c f (afN c f D b n) b := by
  unfold afN
  have h := dishR_succ c f D (List.replicate (n + 1) b) n (by simp)
  simpa [List.take_replicate] using h
theorem afN_good {c : Cn} {f : Int → Nat} {D : Dish} {b : Int} (n : Nat) (hv : c.Ok) (hG : Good c D) (hb : okT b = true) : Good c (afN c f D b n) :=
  hG.run hv (by simp [okL, hb])
theorem afN_bd {c : Cn} {f : Int → Nat} {D : Dish} {b lo hi : Int} (n : Nat) (hv : c.Ok) (hG : Good c D) (hb : lo ≤ b ∧ b ≤ hi) (hD : ∀ t ∈ D.1.1, lo ≤ t ∧ t ≤ hi) : ∀ t ∈ (afN c f D b n).1.1, lo ≤ t ∧ t ≤ hi := by
  unfold afN
  rw [dishR_body]
  exact runS_bd hv _ _ (bodyV_iff.1 hG.body).1 hD (fun x hx => by have := List.eq_of_mem_replicate hx; omega)
end Go.Proofs.Ytihbjimnjhfpeaa

/- Walk of a search's sterile: contract. -/
namespace Go.Proofs.Ytihbjimnjhfpeaa
open Go.RowKit Go.Lib

theorem minA_mono {S U : List Nat} (hl : U.length = S.length) (h0 : 0 < S.length) (h : leN S U) : minA (ivN S) ≤ minA (ivN U) := by
  have hm := minA_mem (ds := ivN U) (by rw [ivN_len]; omega)
  obtain ⟨i, hi, e⟩ := List.mem_iff_getElem.1 hm
  rw [ivN_len] at hi
  have e2 : (ivN U)[i]'(by rw [ivN_len]; exact hi) = ((U[i] : Nat) : Int) := by simp [ivN]
  have e3 : ((S[i]'(by omega) : Nat) : Int) ∈ ivN S := by simp only [ivN, List.mem_map]; exact ⟨_, List.getElem_mem (by omega), rfl⟩
  have := h i (by omega) hi
  have := minA_le e3
  rw [← e, e2]
  omega
theorem addD_ge {f : Int → Nat} {S : List Nat} {T : List Int} (h1 : S.length = T.length) (hs : ∀ s ∈ S, s ≤ 1000000000000000000) : leN S (addD f S T) := by
  intro i a b
  rw [addD_get _ a (by omega)]
  have := hs _ (List.getElem_mem a)
  unfold Lt.cutN
  omega
theorem enD_tick {c : Cn} {f : Int → Nat} {D : Dish} {b need : Int} (hv : c.Ok) (hG : Good c D) (hb : okT b = true) (h : enD need D = true) : enD need (dishT c f D b) = true := by
  have hG2 := hG.tick (f := f) hv hb
  have hp := hv.p
  have hl : (tickS c D.1 b).1.length = c.P := (bodyV_iff.1 hG2.body).1
  have hm : minA (ivN D.2) ≤ minA (ivN (dishT c f D b).2) := minA_mono (by rw [hG2.len, hG.len]) (by rw [hG.len]; exact hp.1) (addD_ge (by rw [hG.len, hl]) hG.le)
  unfold enD at *
  rw [decide_eq_true_eq] at *
  omega
theorem enD_run {c : Cn} {f : Int → Nat} {D : Dish} {b need : Int} (hv : c.Ok) (hG : Good c D) (hb : okT b = true) {k n : Nat} (hk : k ≤ n) (h : enD need (afN c f D b k) = true) : enD need (afN c f D b n) = true := by
  induction n with
  | zero => obtain rfl : k = 0 := by omega
            exact h
  | succ n ih =>
    by_cases e : k = n + 1
    · subst e; exact h
    · rw [afN_succ]
      exact enD_tick hv (afN_good n hv hG hb) hb (ih (by omega))

/-- What a function of a search works on: its box, and a dish in the box behind it. -/
structure SrL (c : Cn) (need : Int) (F : Nat) (lb : Array Value) (bath cold : Int) (most cooling : Nat) (I : World → Prop) (w : World) (D : Dish) (ua ub : Option Addr) (uc ud : Nat) (W : World) : Prop where
  one : W.heap[w.heap.size]? = some (.cells #[.int .i64 (c.R : Int), .int .i64 (c.L : Int), .int .i64 c.A, .int .i64 c.B, .int .i64 c.K, .int .i64 c.A2, .int .i64 c.B2, .int .i64 need, .func (.func F) #[] lb, .int .i64 bath, .int .i64 (most : Nat), .int .i64 cold, .int .i64 (cooling : Nat)] 58 (0, 0))
  two : W.heap[w.heap.size + 1]? = some (.cells #[.slice ua D.1.1.length uc, .bool D.1.2, .slice ub D.2.length ud] 63 (0, 0))
  temps : RowI W (.slice ua D.1.1.length uc) D.1.1
  sums : RowI W (.slice ub D.2.length ud) (ivN D.2)
  inv : I W
  low : Below w.heap.size w W
section
variable {c : Cn} {need : Int} {F : Nat} {lb : Array Value} {bath cold : Int} {most cooling : Nat} {f : Int → Nat} {lo hi : Int} {mb B0 : Nat} {I : World → Prop} {w W W' : World} {D E : Dish} {ua ub ua' ub' : Option Addr} {uc ud uc' ud' : Nat}
theorem SrL.keep (hR : RateOk F lb f lo hi mb B0 I) (h : SrL c need F lb bath cold most cooling I w D ua ub uc ud W) (hb : Below W.heap.size W W') : SrL c need F lb bath cold most cooling I w D ua ub uc ud W' :=
  ⟨(hb.block _ (lt_of_block h.one)).trans h.one, (hb.block _ (lt_of_block h.two)).trans h.two, h.temps.keep hb, h.sums.keep hb, hR.below h.inv hb, bstep h.low h.low.size hb⟩
theorem SrL.store (hR : RateOk F lb f lo hi mb B0 I) (h : SrL c need F lb bath cold most cooling I w D ua ub uc ud W) (h0 : B0 ≤ w.heap.size) (ht : RowI W (.slice ua' E.1.1.length uc') E.1.1) (hs : RowI W (.slice ub' E.2.length ud') (ivN E.2)) :
    SrL c need F lb bath cold most cooling I w E ua' ub' uc' ud' (((W.setCell ⟨w.heap.size + 1, 0, none⟩ (.slice ua' E.1.1.length uc')).setCell ⟨w.heap.size + 1, 1, none⟩ (.bool E.1.2)).setCell ⟨w.heap.size + 1, 2, none⟩ (.slice ub' E.2.length ud')) := by
  obtain ⟨e1, e2, e3⟩ := set3 (y0 := .slice ua' E.1.1.length uc') (y1 := .bool E.1.2) (y2 := .slice ub' E.2.length ud') h.two
  have hg := set3_grown (W := W) (b := w.heap.size + 1) (y0 := .slice ua' E.1.1.length uc') (y1 := .bool E.1.2) (y2 := .slice ub' E.2.length ud')
  exact ⟨(e2 _ (by omega)).trans h.one, e1, rowI_same ht fun b o x hx => e2 _ (box3_noInt h.two hx), rowI_same hs fun b o x hx => e2 _ (box3_noInt h.two hx), hR.keep _ _ _ h.inv hg (fun j e => by cases e; omega), h.low.trans (e3 _ (by omega))⟩
theorem SrL.facts (h : SrL c need F lb bath cold most cooling I w D ua ub uc ud W) :
    (W.cell? ⟨w.heap.size, 0, none⟩ = some (.int .i64 (c.R : Int)) ∧ W.cell? ⟨w.heap.size, 1, none⟩ = some (.int .i64 (c.L : Int)) ∧ W.cell? ⟨w.heap.size, 2, none⟩ = some (.int .i64 c.A) ∧ W.cell? ⟨w.heap.size, 3, none⟩ = some (.int .i64 c.B) ∧ W.cell? ⟨w.heap.size, 4, none⟩ = some (.int .i64 c.K) ∧ W.cell? ⟨w.heap.size, 5, none⟩ = some (.int .i64 c.A2) ∧ W.cell? ⟨w.heap.size, 6, none⟩ = some (.int .i64 c.B2) ∧ W.cell? ⟨w.heap.size, 7, none⟩ = some (.int .i64 need) ∧ W.cell? ⟨w.heap.size, 8, none⟩ = some (.func (.func F) #[] lb)) ∧
    (W.cell? ⟨w.heap.size, 9, none⟩ = some (.int .i64 bath) ∧ W.cell? ⟨w.heap.size, 10, none⟩ = some (.int .i64 (most : Nat)) ∧ W.cell? ⟨w.heap.size, 11, none⟩ = some (.int .i64 cold) ∧ W.cell? ⟨w.heap.size, 12, none⟩ = some (.int .i64 (cooling : Nat))) ∧
    (W.cell? ⟨w.heap.size + 1, 0, none⟩ = some (.slice ua D.1.1.length uc) ∧ W.cell? ⟨w.heap.size + 1, 1, none⟩ = some (.bool D.1.2) ∧ W.cell? ⟨w.heap.size + 1, 2, none⟩ = some (.slice ub D.2.length ud)) ∧ (W.frozen? ⟨w.heap.size + 1, 0, none⟩ = false ∧ W.frozen? ⟨w.heap.size + 1, 1, none⟩ = false ∧ W.frozen? ⟨w.heap.size + 1, 2, none⟩ = false) ∧ w.heap.size + 1 < W.heap.size :=
  ⟨⟨cell_of_row _ _ 0 _ _ _ h.one, cell_of_row _ _ 1 _ _ _ h.one, cell_of_row _ _ 2 _ _ _ h.one, cell_of_row _ _ 3 _ _ _ h.one, cell_of_row _ _ 4 _ _ _ h.one, cell_of_row _ _ 5 _ _ _ h.one, cell_of_row _ _ 6 _ _ _ h.one, cell_of_row _ _ 7 _ _ _ h.one, cell_of_row _ _ 8 _ _ _ h.one⟩, ⟨cell_of_row _ _ 9 _ _ _ h.one, cell_of_row _ _ 10 _ _ _ h.one, cell_of_row _ _ 11 _ _ _ h.one, cell_of_row _ _ 12 _ _ _ h.one⟩,
    ⟨cell_of_row _ _ 0 _ _ _ h.two, cell_of_row _ _ 1 _ _ _ h.two, cell_of_row _ _ 2 _ _ _ h.two⟩, ⟨frozen_of_row _ _ 0 _ _ h.two, frozen_of_row _ _ 1 _ _ h.two, frozen_of_row _ _ 2 _ _ h.two⟩, lt_of_block h.two⟩
theorem srL_start (hI : I ((w.alloc (.cells #[.int .i64 (c.R : Int), .int .i64 (c.L : Int), .int .i64 c.A, .int .i64 c.B, .int .i64 c.K, .int .i64 c.A2, .int .i64 c.B2, .int .i64 need, .func (.func F) #[] lb, .int .i64 bath, .int .i64 (most : Nat), .int .i64 cold, .int .i64 (cooling : Nat)] 58)).alloc (.cells #[.slice ua D.1.1.length uc, .bool D.1.2, .slice ub D.2.length ud] 63))) (ht : RowI w (.slice ua D.1.1.length uc) D.1.1) (hs : RowI w (.slice ub D.2.length ud) (ivN D.2)) : SrL c need F lb bath cold most cooling I w D ua ub uc ud ((w.alloc (.cells #[.int .i64 (c.R : Int), .int .i64 (c.L : Int), .int .i64 c.A, .int .i64 c.B, .int .i64 c.K, .int .i64 c.A2, .int .i64 c.B2, .int .i64 need, .func (.func F) #[] lb, .int .i64 bath, .int .i64 (most : Nat), .int .i64 cold, .int .i64 (cooling : Nat)] 58)).alloc (.cells #[.slice ua D.1.1.length uc, .bool D.1.2, .slice ub D.2.length ud] 63)) := by
  have h := b2_start (w := w) (T1 := 58) (T2 := 63) (A := #[.int .i64 (c.R : Int), .int .i64 (c.L : Int), .int .i64 c.A, .int .i64 c.B, .int .i64 c.K, .int .i64 c.A2, .int .i64 c.B2, .int .i64 need, .func (.func F) #[] lb, .int .i64 bath, .int .i64 (most : Nat), .int .i64 cold, .int .i64 (cooling : Nat)]) (B := #[.slice ua D.1.1.length uc, .bool D.1.2, .slice ub D.2.length ud])
  exact ⟨h.one, h.two, ht.keep h.low, hs.keep h.low, hI, h.low⟩
end

set_option maxRecDepth 100000 in
set_option maxHeartbeats 8000000 in
theorem ssterile_any (c : Cn) (need : Int) (F : Nat) (lb : Array Value) (bath cold : Int) (most cooling : Nat) (f : Int → Nat) (lo hi : Int) (mb B0 : Nat) (I : World → Prop) (D : Dish) (ua ub : Option Addr) (uc ud : Nat) (w : World) (hR : RateOk F lb f lo hi mb B0 I) (hF : Fix I mb) (hv : c.V) (hG : Good c D) (hb : okT cold = true) (hn : cooling ≤ 2000) (hI : I w)
    (ht : RowI w (.slice ua D.1.1.length uc) D.1.1) (hs : RowI w (.slice ub D.2.length ud) (ivN D.2)) (hbc : lo ≤ cold ∧ cold ≤ hi) (hbd : ∀ t ∈ D.1.1, lo ≤ t ∧ t ≤ hi) :
    Calls Try.prog 46 #[.agg #[.int .i64 (c.R : Int), .int .i64 (c.L : Int), .int .i64 c.A, .int .i64 c.B, .int .i64 c.K, .int .i64 c.A2, .int .i64 c.B2, .int .i64 need, .func (.func F) #[] lb, .int .i64 bath, .int .i64 (most : Nat), .int .i64 cold, .int .i64 (cooling : Nat)], .agg #[.slice ua D.1.1.length uc, .bool D.1.2, .slice ub D.2.length ud]] w fun e w' => e = .returned (.bool (enD need (afN c f D cold cooling))) ∧ Below w.heap.size w w' := by
  have h0 := hR.le w hI
  have H0 := hid h0
  have HRR := hid hR
  have HS := hid (srL_start (c := c) (need := need) (F := F) (lb := lb) (bath := bath) (cold := cold) (most := most) (cooling := cooling) (I := I) (hR.below hI ((Below.refl _ _).alloc (Nat.le_refl _) _ |>.alloc (by simp) _)) ht hs)
  have HEN := hid (fun k (E : Dish) (hE : E = afN c f D cold k) (ua ub : Option Addr) (uc ud : Nat) (W : World) (h : RowI W (.slice ub E.2.length ud) (ivN E.2)) => enough_any c need F lb E ua ub uc ud W (by rw [hE, (afN_good k hv.ok hG hb).len]; exact hv.ok.p.1) (by rw [hE, (afN_good k hv.ok hG hb).len]; exact hv.ok.p.2) h)
  have HAF := hid (fun k (E : Dish) (hE : E = afN c f D cold k) (ua ub : Option Addr) (uc ud : Nat) (W : World) (hIW : I W) (ht : RowI W (.slice ua E.1.1.length uc) E.1.1) (hs : RowI W (.slice ub E.2.length ud) (ivN E.2)) => mafter_any c need cold F lb f lo hi mb B0 I E ua ub uc ud W hR hv (by rw [hE]; exact afN_good k hv.ok hG hb) hb hIW ht hs (by
      have := afN_bd (f := f) (k + 1) hv.ok hG hbc hbd
      rw [afN_succ] at this
      rw [hE]
      exact this))
  have HER := hid (fun k (hk : k ≤ cooling) => enD_run (f := f) (need := need) hv.ok hG hb hk)
  have HSU := hid (fun k => afN_succ c f D cold k)
  have HZ := hid (afN_zero c f D cold)
  have HFX := hid hF
  clear h0 hR ht hs hI hG hv hb hbc hbd hF
  go_enter Try.func46, Try.ntmps46
  go_wp2_with fail
  go_loopw [7] (fun x wr => ∃ k : Nat, k ≤ cooling ∧ x = .int .i64 (k : Int) ∧ ∃ ua ub uc ud, Hid (SrL c need F lb bath cold most cooling I w (afN c f D cold k) ua ub uc ud wr)) (fun x _ => cooling - (intOf x).toNat)
  case atStart => exact ⟨0, Nat.zero_le _, rfl, ua, ub, uc, ud, by rw [HZ.out]; exact HS⟩
  case round =>
    obtain ⟨k, hk, rfl, ua, ub, uc, ud, hS⟩ := hrel
    have HEN2 := hid (HEN.out k _ rfl ua ub uc ud _ hS.out.sums)
    by_cases hlt : k < cooling
    · have hlt' : (k : Int) < cooling := by omega
      have HAF2 := hid (HAF.out k _ rfl)
      have HSU2 := hid (HSU.out k)
      have HER2 := hid (HER.out k hk)
      generalize afN c f D cold k = E at *
      obtain ⟨⟨m0, m1, m2, m3, m4, m5, m6, m7, m8⟩, ⟨s0, s1, s2, s3⟩, ⟨d0, d1, d2⟩, ⟨f0, f1, f2⟩, hz⟩ := hS.out.facts
      have HLT := hid hlt
      clear hlt
      go_wp2_with fail
      refine (HEN2.out).mono ?_
      rintro e w3 ⟨rfl, hb3⟩
      have H3 := hid (hS.out.keep HRR.out hb3)
      clear hb3 m0 m1 m2 m3 m4 m5 m6 m7 m8 s0 s1 s2 s3 d0 d1 d2 f0 f1 f2 hz hS HEN2
      obtain ⟨⟨m0, m1, m2, m3, m4, m5, m6, m7, m8⟩, ⟨s0, s1, s2, s3⟩, ⟨d0, d1, d2⟩, ⟨f0, f1, f2⟩, hz⟩ := H3.out.facts
      by_cases he : enD need E = true
      · have hfin := HER2.out he
        rw [he]
        go_wp2_with fail
        refine bodyPost_ret (v := .bool true) (by simp [results, Try.results46, go_sem]) rfl ⟨by rw [hfin], H3.out.low⟩
      · rw [show enD need E = false by simpa using he]
        go_wp2_with fail
        refine (HAF2.out ua ub uc ud _ H3.out.inv H3.out.temps H3.out.sums).mono ?_
        rintro e w4 ⟨ua', ub', uc', ud', rfl, ht4, hs4, hi4, hg4⟩
        rw [← HSU2.out] at ht4 hs4 ⊢
        have H4 := hid (H3.out.keep HRR.out (HFX.out.low H3.out.inv hi4 hg4))
        have HST := hid (H4.out.store HRR.out H0.out ht4 hs4)
        clear m0 m1 m2 m3 m4 m5 m6 m7 m8 s0 s1 s2 s3 d0 d1 d2 f0 f1 f2 hz ht4 hs4 hi4 hg4 H3
        obtain ⟨_, _, ⟨d0, d1, d2⟩, ⟨f0, f1, f2⟩, hz⟩ := H4.out.facts
        go_wp2_with fail
        go_roundw
        case rel => exact ⟨k + 1, HLT.out, by go_num, ua', ub', uc', ud', HST⟩
        case measure => have := HLT.out; simp [intOf]; omega
    · obtain rfl : k = cooling := by omega
      generalize hE : afN c f D cold k = E at *
      have HE := hid hE
      obtain ⟨⟨m0, m1, m2, m3, m4, m5, m6, m7, m8⟩, ⟨s0, s1, s2, s3⟩, ⟨d0, d1, d2⟩, ⟨f0, f1, f2⟩, hz⟩ := hS.out.facts
      clear hlt hE
      go_wp2_with fail
      refine (HEN2.out).mono ?_
      rintro e w3 ⟨rfl, hb3⟩
      have H3 := hid (hS.out.keep HRR.out hb3)
      clear hb3 m0 m1 m2 m3 m4 m5 m6 m7 m8 s0 s1 s2 s3 d0 d1 d2 f0 f1 f2 hz
      go_wp2_with fail
      refine bodyPost_ret (v := .bool (enD need E)) (by simp [results, Try.results46, go_sem]) rfl ⟨by rw [← HE.out], H3.out.low⟩
end Go.Proofs.Ytihbjimnjhfpeaa
