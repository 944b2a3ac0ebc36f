/- Walk of enough and of a search's sterile: contracts, for a meter whose map stays. -/
import Derived.Test.YtedfajokiblfhaaPch
import Derived.Test.YtedfajokiblfhaaC8
namespace Go.Proofs.Ytedfajokiblfhaa
open Go.RowKit Go.Lib

/-- What the rate stands on says what the map at mb holds. -/
def Fix (I : World → Prop) (mb : Nat) : Prop := ∃ o : Obj, ∀ W, I W → W.heap[mb]? = some o
theorem Fix.low {I : World → Prop} {mb : Nat} {W W' : World} (h : Fix I mb) (h1 : I W) (h2 : I W') (hg : W.grownBy W' (some mb)) : Below W.heap.size W W' := by
  obtain ⟨o, ho⟩ := h
  refine ⟨hg.os, hg.tape, hg.output, hg.size, fun k hk => ?_⟩
  by_cases e : k = mb
  · subst e; rw [ho _ h1, ho _ h2]
  · exact hg.block k hk (fun h => e (Option.some.inj h))
/-- The sums of a dish are what is needed. -/
def enD (need : Int) (D : Dish) : Bool := decide (need ≤ minA (ivN D.2))
def RawEn (c : Cn) (need : Int) (F : Nat) (lb : Array Value) (D : Dish) (ua ub : Option Addr) (uc ud : Nat) (w W : World) : Prop :=
  W.cell? ⟨w.heap.size, 7, none⟩ = some (.int .i64 need) ∧ W.cell? ⟨w.heap.size + 1, 2, none⟩ = some (.slice ub D.2.length ud) ∧
  B2 w W 71 74 #[.int .i64 (c.R : Int), .int .i64 (c.L : Int), .int .i64 c.A, .int .i64 c.B, .int .i64 c.K, .int .i64 c.A2, .int .i64 c.B2, .int .i64 need, .func (.func F) #[] lb] #[.slice ua D.1.1.length uc, .bool D.1.2, .slice ub D.2.length ud] ∧ RowI W (.slice ub D.2.length ud) (ivN D.2)
theorem rawEn {c : Cn} {need : Int} {F : Nat} {lb : Array Value} {D : Dish} {ua ub : Option Addr} {uc ud : Nat} {w W : World} (h : B2 w W 71 74 #[.int .i64 (c.R : Int), .int .i64 (c.L : Int), .int .i64 c.A, .int .i64 c.B, .int .i64 c.K, .int .i64 c.A2, .int .i64 c.B2, .int .i64 need, .func (.func F) #[] lb] #[.slice ua D.1.1.length uc, .bool D.1.2, .slice ub D.2.length ud]) (hr : RowI W (.slice ub D.2.length ud) (ivN D.2)) : RawEn c need F lb D ua ub uc ud w W :=
  ⟨cell_of_row _ _ 7 _ _ _ h.one, cell_of_row _ _ 2 _ _ _ h.two, h, hr⟩
set_option maxRecDepth 20000 in
set_option maxHeartbeats 4000000 in
theorem enough_any (c : Cn) (need : Int) (F : Nat) (lb : Array Value) (D : Dish) (ua ub : Option Addr) (uc ud : Nat) (w : World) (h0 : 0 < D.2.length) (h1 : D.2.length ≤ 48) (hs : RowI w (.slice ub D.2.length ud) (ivN D.2)) :
    Calls Try.prog 105 #[.agg #[.int .i64 (c.R : Int), .int .i64 (c.L : Int), .int .i64 c.A, .int .i64 c.B, .int .i64 c.K, .int .i64 c.A2, .int .i64 c.B2, .int .i64 need, .func (.func F) #[] lb], .agg #[.slice ua D.1.1.length uc, .bool D.1.2, .slice ub D.2.length ud]] w fun e w' => e = .returned (.bool (enD need D)) ∧ Below w.heap.size w w' := by
  have HX := hid (b2_start (w := w) (T1 := 71) (T2 := 74) (A := #[.int .i64 (c.R : Int), .int .i64 (c.L : Int), .int .i64 c.A, .int .i64 c.B, .int .i64 c.K, .int .i64 c.A2, .int .i64 c.B2, .int .i64 need, .func (.func F) #[] lb]) (B := #[.slice ua D.1.1.length uc, .bool D.1.2, .slice ub D.2.length ud]))
  have HMN := hid (fun (W : World) (h : RowI W (.slice ub D.2.length ud) (ivN D.2)) => minA_any _ (ivN D.2) W h (by rw [ivN_len]; omega) (by rw [ivN_len]; omega))
  have HL := hid (fun W (g : Below w.heap.size w W) => hs.keep g)
  unfold enD
  generalize minA (ivN D.2) = mn at *
  clear hs h0 h1
  go_enter Try.func105, Try.ntmps105
  go_wp2_with fail
  have HL2 := hid (HL.out _ HX.out.low)
  refine wp_region_sink (S := RawEn c need F lb D ua ub uc ud w) 6 (by kernel_rfl) (by kernel_rfl) (by kernel_rfl) (by kernel_rfl) (rawEn (HX.out.keep (Below.refl _ _).drew) (HL2.out.keep (Below.refl _ _).drew)) (fun hS0 => ?_)
  refine wpAnyH_take (i := 0) (v := ?_) rfl (by kernel_rfl) (by kernel_rfl) (by kernel_rfl) (fun _ _ _ h => h) (Or.inl ⟨by rfl, ?_⟩) hS0 ?_
  rotate_left
  · intro w' hSw
    obtain ⟨q0, q1, _⟩ := hSw
    go_simp
    try with_reducible rfl
  try simp only [Act.put]
  try simp only [List.setIfInBounds_toArray]
  try simp only [List.set_cons_zero, List.set_cons_succ]
  refine wpAnyH_take (i := 1) (v := ?_) rfl (by kernel_rfl) (by kernel_rfl) (by kernel_rfl) (fun _ _ _ h => h) (Or.inl ⟨by rfl, ?_⟩) hS0 ?_
  rotate_left
  · intro w' hSw
    obtain ⟨q0, q1, _⟩ := hSw
    go_simp
    try with_reducible rfl
  try simp only [Act.put]
  try simp only [List.setIfInBounds_toArray]
  try simp only [List.set_cons_zero, List.set_cons_succ]
  refine wpAnyH_take (i := 3) (v := ?_) rfl (by kernel_rfl) (by kernel_rfl) (by kernel_rfl) (fun _ _ _ h => h) (Or.inl ⟨by rfl, ?_⟩) hS0 ?_
  rotate_left
  · intro w' hSw
    obtain ⟨q0, q1, _⟩ := hSw
    go_simp
    try with_reducible rfl
  try simp only [Act.put]
  try simp only [List.setIfInBounds_toArray]
  try simp only [List.set_cons_zero, List.set_cons_succ]
  refine wpAnyH_take (i := 4) (v := ?_) rfl (by kernel_rfl) (by kernel_rfl) (by kernel_rfl) (fun _ _ _ h => h) (Or.inl ⟨by rfl, ?_⟩) hS0 ?_
  rotate_left
  · intro w' hSw
    obtain ⟨q0, q1, _⟩ := hSw
    go_simp
    try with_reducible rfl
  try simp only [Act.put]
  try simp only [List.setIfInBounds_toArray]
  try simp only [List.set_cons_zero, List.set_cons_succ]
  (refine wpAnyH_ready (rs := [2]) (by kernel_rfl) (by simp) ?_)
  refine AllReadyH.cons rfl (fun K hK => ?_) AllReadyH.nil
  go_simp
  refine (HMN.out _ hS0.2.2.2).mono ?_
  rintro e w5 ⟨rfl, rfl⟩
  (refine hK.out _ _ (hS0) (fun hS1 => ?_); clear hK K)
  refine wpAnyH_take (i := 5) (v := ?_) rfl (by kernel_rfl) (by kernel_rfl) (by kernel_rfl) (fun _ _ _ h => h) (Or.inl ⟨by rfl, ?_⟩) hS1 ?_
  rotate_left
  · intro w' hSw
    obtain ⟨q0, q1, _⟩ := hSw
    go_simp
    try with_reducible rfl
  try simp only [Act.put]
  try simp only [List.setIfInBounds_toArray]
  try simp only [List.set_cons_zero, List.set_cons_succ]
  refine wpAnyH_done (by kernel_rfl) ?_ _
  have HX9 := hid hS1.2.2.1
  refine sink_last rfl (fun K hK => ?_)
  go_simp
  refine hK.out _ _ ?_
  clear hK K
  go_wp2_with fail
  refine bodyPost_ret (v := .bool (decide (need ≤ mn))) (by simp [results, Try.results105, go_sem]) rfl ⟨rfl, HX9.out.low⟩

/-- The dish after n ticks in a bath. -/
def afN (c : Cn) (f : Int → Nat) (D : Dish) (b : Int) (n : Nat) : Dish := dishR c f D (List.replicate n b)
theorem afN_zero (c : Cn) (f : Int → Nat) (D : Dish) (b : Int) : afN c f D b 0 = D := dishR_nil c f D
theorem afN_succ (c : Cn) (f : Int → Nat) (D : Dish) (b : Int) (n : Nat) : afN c f D b (n + 1) = dishT c f (afN c f D b n) b := by
  unfold afN
  have h := dishR_succ c f D (List.replicate (n + 1) b) n (by simp)
  simpa [List.take_replicate] using h
theorem afN_good {c : Cn} {f : Int → Nat} {D : Dish} {b : Int} (n : Nat) (hv : c.Ok) (hG : Good c D) (hb : okT b = true) : Good c (afN c f D b n) :=
  hG.run hv (by simp [okL, hb])
theorem afN_bd {c : Cn} {f : Int → Nat} {D : Dish} {b lo hi : Int} (n : Nat) (hv : c.Ok) (hG : Good c D) (hb : lo ≤ b ∧ b ≤ hi) (hD : ∀ t ∈ D.1.1, lo ≤ t ∧ t ≤ hi) : ∀ t ∈ (afN c f D b n).1.1, lo ≤ t ∧ t ≤ hi := by
  unfold afN
  rw [dishR_body]
  exact runS_bd hv _ _ (bodyV_iff.1 hG.body).1 hD (fun x hx => by have := List.eq_of_mem_replicate hx; omega)
end Go.Proofs.Ytedfajokiblfhaa
