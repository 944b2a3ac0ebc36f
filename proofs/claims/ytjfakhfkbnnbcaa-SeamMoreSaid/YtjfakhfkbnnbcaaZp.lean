/- Walk of stretches: contract. -/
import Derived.Test.YtjfakhfkbnnbcaaP9
namespace Go.Proofs.Ytjfakhfkbnnbcaa
open Go.RowKit Go.Shelf
attribute [local go_sem] Oper.semAt_some

/-- What is told of the pairs of some heads. -/
def allT (f : Ck × Ck → Pr) (b E : Int) (l : List Ck) (H : List Int) : List Pr := H.flatMap fun h => tellL f b E (prL h l)
theorem sti_cells {w W : World} {A : Array Value} {b E : Int} {fn v : Value} {L : List Pr} (h : StI w A b E fn L v W) : (∀ i, W.cell? ⟨w.heap.size, i, none⟩ = A[i]?) ∧ W.cell? ⟨w.heap.size + 1, 0, none⟩ = some (.int .i64 b) ∧ W.cell? ⟨w.heap.size + 1 + 1, 0, none⟩ = some (.int .i64 E) ∧ W.cell? ⟨w.heap.size + 1 + 1 + 1, 0, none⟩ = some fn ∧ W.cell? ⟨w.heap.size + 1 + 1 + 1 + 1, 0, none⟩ = some v :=
  ⟨fun i => cell_of_row W _ i _ _ _ h.clo, cell_of_row W _ 0 _ _ _ h.bb, cell_of_row W _ 0 _ _ _ h.ee, cell_of_row W _ 0 _ _ _ h.fn, cell_of_row W _ 0 _ _ _ h.box⟩
theorem OwnX.cells {W W' : World} {base T : Nat} {v : Value} {L : List Pr} (h : OwnX W base T v L) (hc : ∀ (g : Nat) (cs : Array Value) (T : Nat) (fr : Nat × Nat), W.heap[g]? = some (Obj.cells cs T fr) → W'.heap[g]? = some (Obj.cells cs T fr)) : OwnX W' base T v L := by
  refine ⟨h.1, ?_⟩
  rcases h.2 with h0 | ⟨g, cap, cur, e, hb, hgr, rest⟩
  · exact .inl h0
  · exact .inr ⟨g, cap, cur, e, hb, hc _ _ _ _ hgr, rest⟩
theorem allT_take {f : Ck × Ck → Pr} {b E : Int} {l : List Ck} {H : List Int} {k : Nat} (hk : k < H.length) : allT f b E l (H.take (k + 1)) = allT f b E l (H.take k) ++ tellL f b E (prL H[k] l) := by
  unfold allT
  rw [List.take_succ_eq_append_getElem hk, List.flatMap_append]
  simp
theorem keepsB {B : Nat} {W W' : World} (h : Below W.heap.size W W') : KeepsFrom B W W' := ⟨h.size, fun k _ _ hk _ => (h.block k (Array.getElem?_eq_some_iff.1 hk).1).trans hk⟩
theorem kpP_below {n0 x0 y0 : Nat} {W W' : World} (hn : n0 ≤ W.heap.size) (h : Below W.heap.size W W') : KpP n0 x0 y0 W W' :=
  ⟨h.size, fun j hj _ _ => h.block j (by omega), fun j cs hj => (h.block j (Array.getElem?_eq_some_iff.1 hj).1).trans hj⟩
theorem rows_shape {w : World} {base e size n : Nat} {v : Value} {xs : List Value} (h : w.ownsRow base e size v n xs) : ∃ a c, v = .slice a n c := by
  rcases h.2 with ⟨rfl, h0⟩ | ⟨g, cap, cur, rfl, _⟩
  · exact ⟨_, _, by rw [h0]⟩
  · exact ⟨_, _, rfl⟩
theorem tell_take {f : Ck × Ck → Pr} {b E : Int} {l : List (Ck × Ck)} {k : Nat} {p : Ck × Ck} (h : l[k]? = some p) : tellL f b E (l.take (k + 1)) = tellL f b E (l.take k) ++ [⟨max (f p).x b, min (f p).y E⟩] := by
  unfold tellL
  rw [List.take_add_one, h]
  simp
theorem prS_len (h : Int) : ∀ (l : List Ck) (s : List (Ck × Ck) × Ck), (l.foldl (prS h) s).1.length ≤ s.1.length + l.length
  | [], s => by simp
  | c :: l, s => by
    rw [List.foldl_cons]
    refine Nat.le_trans (prS_len h l _) ?_
    unfold prS
    split <;> simp <;> omega
theorem prL_len (h : Int) (l : List Ck) : (prL h l).length ≤ l.length + 1 := by
  have := prS_len h l ([], ckLong h)
  simp only [prL, prF, List.length_append, List.length_singleton]
  simp only [List.length_nil] at this
  omega
theorem allT_len (f : Ck × Ck → Pr) (b E : Int) (l : List Ck) : ∀ H : List Int, (allT f b E l H).length ≤ H.length * (l.length + 1)
  | [] => by simp [allT]
  | h :: H => by
    have i1 := allT_len f b E l H
    have i2 := prL_len h l
    simp only [allT, List.flatMap_cons, List.length_append, List.length_cons, Nat.succ_mul] at i1 ⊢
    have : (tellL f b E (prL h l)).length = (prL h l).length := by simp [tellL]
    omega
theorem tell_len (f : Ck × Ck → Pr) (b E : Int) (h : Int) (l : List Ck) (k : Nat) : (tellL f b E ((prL h l).take k)).length ≤ l.length + 1 := by
  have := prL_len h l
  unfold tellL
  rw [List.length_map, List.length_take]
  omega
set_option maxRecDepth 20000 in
set_option maxHeartbeats 8000000 in
theorem stretches_any (l : List Ck) (v1 v2 : Value) (H : List Int) (b E : Int) (F : Nat) (caps : Array Value) (f : Ck × Ck → Pr) (w : World) (hr1 : RowK3 w v1 l) (hr2 : RowI w v2 H) (hl : l.length ≤ 600) (hH : H.length ≤ 12) (eF : ∀ (args : Array Value) (w : World), Sem.run Try.prog (callFunc F args) w = .ok (.enter F args) w)
    (hF : ∀ (p : Ck × Ck) (W : World), (∃ h : Int, p ∈ prL h l) → Below w.heap.size w W → Calls Try.prog F (#[.agg (ckA p.1), .agg (ckA p.2)] ++ caps) W fun e W' => e = .returned (.agg #[.int .i64 (f p).x, .int .i64 (f p).y]) ∧ Below W.heap.size W W') :
    Calls Try.prog 47 #[.agg #[v1, v2], .int .i64 b, .int .i64 E, .func (.func F) #[] caps] w (UniP (allT f b E l H) w) := by
  have HR1 := hid hr1
  have HR2 := hid (fun w1 (g : Below w.heap.size w w1) => hr2.keep g)
  obtain ⟨a, ba, o, cap, rfl, -, -, had, hcl⟩ := hr1
  have HAD := hid had
  have HCL := hid hcl
  clear had hcl
  obtain ⟨a2, cap2, rfl⟩ := hr2.shape
  clear hr2
  have HST := hid (sti_start w #[.slice a l.length cap, .slice a2 H.length cap2] b E (.func (.func F) #[] caps))
  refine (callsIn_wide (n := 10)).1 ?_
  refine callsIn_of_wp_marks Try.func47 rfl trivial ?_ rfl
  simp only [Try.ntmps47, List.size_toArray, List.length_cons, List.length_nil, Nat.reduceAdd, Nat.reduceSub, Array.replicate_succ, Array.replicate_zero, List.push_toArray, List.append_toArray, List.nil_append, List.cons_append]
  gi_wp2
  refine wpIn_loop (fun a' W => ∃ (k : Nat) (Ds : List Nat) (u11 u19 u20 u21 u22 u23 u24 u43 : Value), k ≤ H.length ∧ a' = { tmps := #[.agg #[.slice a l.length cap, .slice a2 H.length cap2], .int .i64 b, .int .i64 E, .func (.func F) #[] caps, .pointer (some ⟨w.heap.size, 0, none⟩), .pointer (some ⟨w.heap.size + 1, 0, none⟩), .pointer (some ⟨w.heap.size + 1 + 1, 0, none⟩), .pointer (some ⟨w.heap.size + 1 + 1 + 1, 0, none⟩), .slice none 0 0,
      .pointer (some ⟨w.heap.size + 1 + 1 + 1 + 1, 0, none⟩), undef, u11, undef, undef, undef, .pointer (some ⟨w.heap.size, 1, none⟩), .slice a2 H.length cap2, .int .i64 (H.length : Int), .int .i64 (k : Int), u19, u20, u21, u22, u23, u24, undef, undef, undef, undef, undef, undef, undef, undef, undef, undef, undef, undef, undef, undef, undef, undef, undef, undef, u43, undef, undef], defers := Ds.map markOf } ∧ Marks0 (w.heap.size + 5) Ds W ∧ ∃ v, StI w #[.slice a l.length cap, .slice a2 H.length cap2] b E (.func (.func F) #[] caps) (allT f b E l (H.take k)) v W) (fun a' _ => H.length - (intOf (a'.tmps.getD 18 undef)).toNat) ?start ?round
  case start => exact ⟨0, [], undef, undef, undef, undef, undef, undef, undef, undef, Nat.zero_le _, rfl, Marks0.nil _ _, _, HST.out⟩
  case round =>
    rintro a' wr ⟨k, Ds, u11, u19, u20, u21, u22, u23, u24, u43, hk, rfl, hM, v, hS⟩
    clear HST
    by_cases hlt : k < H.length
    · have hlt' : (k : Int) < H.length := by omega
      obtain ⟨bb, oo, cap', e0, -, hat⟩ := (HR2.out _ hS.low).resolve_left (by rintro ⟨_, _, _, e⟩; rw [e] at hlt; exact absurd hlt (Nat.not_lt_zero _))
      cases e0
      have e1 := hat k hlt
      obtain ⟨c1, c2, c3, c4, c5⟩ := sti_cells hS
      have c10 := c1 0
      have c11 := c1 1
      simp only [List.getElem?_toArray, List.getElem?_cons_zero, List.getElem?_cons_succ] at c10 c11
      clear c1 c2 c3 c4 c5 hat
      obtain ⟨h, hh⟩ : ∃ h, h = H[k] := ⟨_, rfl⟩
      rw [← hh] at e1
      have HS := hid hS
      have HH := hid hh
      have HM := hid hM
      clear hS hh hM
      gi_wp2
      refine ⟨trivial, ?_⟩
      refine (callsIn_wide.2 (pairsf_any _ _ _ _ h wr)).mono ?_
      rintro e W5 ⟨rfl, hW5⟩
      gi_wp2
      have hsz := (Array.getElem?_eq_some_iff.1 HS.out.box).1
      have z5 : W5.heap.size = wr.heap.size + 2 := by rw [hW5]; simp
      have hb5 : Below wr.heap.size wr W5 := by rw [hW5]; exact ((Below.refl _ wr).alloc (Nat.le_refl _) _).alloc (by simp) _
      have hc5 : W5.heap[wr.heap.size]? = some (.cells #[.slice a l.length cap, .slice (some ⟨bb, oo, none⟩) H.length cap2] 61 (0, 0)) := by rw [hW5, Below.heap_alloc _ _ _ (by simp)]; exact newS_at rfl
      have hh5 : W5.heap[wr.heap.size + 1]? = some (.cells #[.int .i64 h] 3 (0, 0)) := by rw [hW5]; exact newS_at (by simp)
      rw [← hW5]
      clear hW5
      have hS5 := HS.out.more hb5
      have hM5 := HM.out.keep (W' := W5) (fun D _ e => (hb5.block D (Array.getElem?_eq_some_iff.1 e).1).trans e)
      have hMlt : ∀ D ∈ Ds, D < wr.heap.size := fun D hD => (Array.getElem?_eq_some_iff.1 (HM.out.at_ D hD).2).1
      have hbl : l ≠ [] → ba < w.heap.size := fun hl0 => World.block_lt_of_cell? _ ⟨ba, _, none⟩ (HCL.out 0 (List.length_pos_iff.2 hl0)).1
      obtain ⟨y0, hy0⟩ : ∃ y0, y0 = (v.ownBlock).getD (w.heap.size + 1 + 1 + 1 + 1) := ⟨_, rfl⟩
      have hy : w.heap.size + 4 ≤ y0 ∧ y0 < wr.heap.size ∧ (∀ g, v.ownBlock = some g → g = y0) := by
        cases hv : v.ownBlock with
        | none => rw [hv] at hy0; simp at hy0; exact ⟨by omega, by omega, fun g e => by cases e⟩
        | some g => rw [hv] at hy0; simp at hy0; have := World.ownsRow.lt HS.out.own g hv; exact ⟨by omega, by omega, fun g' e => by cases e; exact hy0.symm⟩
      obtain ⟨hy1, hy2, hy3⟩ := hy
      clear hy0
      have hI : ItP h l (wr.heap.size + 1) wr.heap.size a ba o cap (wr.heap.size + 2) W5 :=
        ⟨cell_of_row W5 _ 0 _ _ _ hh5, cell_of_row W5 _ 0 _ _ _ hc5, HAD.out, fun j hj => by obtain ⟨q1, q2, q3⟩ := HCL.out j hj; exact ⟨keep_cell hS5.low q1, keep_cell hS5.low q2, keep_cell hS5.low q3⟩, ⟨by omega, by omega, fun e => by have := hbl e; omega⟩, by omega⟩
      refine range_boxed (T := 75) (F := Fence.wide) (n := 10) (xs := prL h l) (encs := encP) (Kp := KpP (wr.heap.size + 2) (w.heap.size + 1 + 1 + 1 + 1) y0) (w0 := W5) rfl (by omega) (gf := 88) (lb := #[.pointer (some ⟨wr.heap.size + 1, 0, none⟩), .pointer (some ⟨wr.heap.size, 0, none⟩)]) rfl trivial (enters_of Try.func88 (by kernel_rfl) rfl)
        (pairs_seq h l _ _ a ba o cap _ _ _ (by omega) ⟨by omega, by omega, fun e => by have := hbl e; omega⟩ W5 hI)
        (fun h k => h.trans k) (fun W l o o' hl h hc _ => KpP.put (by omega) h hc) (Below.refl _ _) (fun _ => rfl)
        (fun pre W => (∃ v', StI w #[.slice a l.length cap, .slice (some ⟨bb, oo, none⟩) H.length cap2] b E (.func (.func F) #[] caps) (allT f b E l (H.take k) ++ tellL f b E pre) v' W ∧ ∀ g, v'.ownBlock = some g → g = y0 ∨ wr.heap.size + 2 ≤ g) ∧ Marks0 (w.heap.size + 5) Ds W ∧ wr.heap.size + 2 ≤ W.heap.size) (fun _ _ => False) ?hI ?hIx ⟨⟨v, by simpa [tellL] using hS5, fun g e => .inl (hy3 g e)⟩, hM5, by omega⟩
        (fun p a' W => ∃ n1 n2, wr.heap.size + 2 ≤ n1 ∧ wr.heap.size + 2 ≤ n2 ∧ W.heap[n1]? = some (Obj.cells (ckA p.1) 75 (0, 0)) ∧ W.heap[n2]? = some (Obj.cells (ckA p.2) 75 (0, 0)) ∧ a' = { tmps := #[.agg #[.slice a l.length cap, .slice (some ⟨bb, oo, none⟩) H.length cap2], .int .i64 b, .int .i64 E, .func (.func F) #[] caps, .pointer (some ⟨w.heap.size, 0, none⟩), .pointer (some ⟨w.heap.size + 1, 0, none⟩), .pointer (some ⟨w.heap.size + 1 + 1, 0, none⟩), .pointer (some ⟨w.heap.size + 1 + 1 + 1, 0, none⟩), .slice none 0 0, .pointer (some ⟨w.heap.size + 1 + 1 + 1 + 1, 0, none⟩), undef, .int .i64 h, .pointer (some ⟨n1, 0, none⟩), .pointer (some ⟨n2, 0, none⟩), undef, .pointer (some ⟨w.heap.size, 1, none⟩), .slice (some ⟨bb, oo, none⟩) H.length cap2, .int .i64 (H.length : Int), .int .i64 (k : Int), .bool true, .pointer (some ⟨bb, oo + k, none⟩), .int .i64 h, .agg #[.slice a l.length cap, .slice (some ⟨bb, oo, none⟩) H.length cap2], .int .i64 h, .func (.func 88) #[] #[.pointer (some ⟨wr.heap.size + 1, 0, none⟩), .pointer (some ⟨wr.heap.size, 0, none⟩)], .agg (ckA p.1), .agg (ckA p.2), undef, undef, undef, undef, undef, undef, undef, undef, undef, undef, undef, undef, undef, undef, undef, undef, u43, undef, undef], defers := [] }) ?hAx ?assign ?body ?done ?stop
      case stop => rintro D k' W hD h; exact h.elim
      case hIx => rintro pre A B' row h; exact h.elim
      case hI =>
        rintro pre W1 W2 row ⟨⟨v', h1, h2⟩, h3, h4⟩ hgr hr
        exact ⟨⟨v', h1.turn hgr (fun j e => ⟨by have := (hr j e).1; omega, (hr j e).2⟩), h2⟩, ⟨h3.nd, fun D hD => ⟨(h3.at_ D hD).1, by
          have e := (h3.at_ D hD).2
          rw [hgr.block D (Array.getElem?_eq_some_iff.1 e).1 ?_]; exact e
          intro e'
          have r1 := (hr D e'.symm).1
          have := hMlt D hD
          omega⟩⟩, by have := hgr.size; omega⟩
      case hAx =>
        rintro p a' W l' o1 o2 ⟨n1, n2, q1, q2, q3, q4, q5⟩ hl' ho hc'
        exact ⟨n1, n2, q1, q2, (World.putObj_heap_other (by rintro rfl; rw [q3] at ho; cases ho; cases hc')).trans q3, (World.putObj_heap_other (by rintro rfl; rw [q4] at ho; cases ho; cases hc')).trans q4, q5⟩
      case assign =>
        rintro l' k' p W K hx ⟨⟨v', h1, h2⟩, h3, h4⟩ hK
        have hb1 := (Below.refl W.heap.size W).alloc (Nat.le_refl _) (.cells (ckA p.1) 75)
        have hb := hb1.alloc hb1.size (.cells (ckA p.2) 75)
        have HK := hid hK; have H1 := hid h1; have H3 := hid h3; have HB := hid hb
        clear hK h1 h3 hb hb1 hx
        simp only [encP, ckA]
        gi_wp2
        refine HK.out _ _ (keepsB HB.out) (kpP_below h4 HB.out) ⟨⟨v', H1.out.more HB.out, h2⟩, H3.out.keep (fun D _ e => (HB.out.block D (Array.getElem?_eq_some_iff.1 e).1).trans e), Nat.le_trans h4 HB.out.size⟩ ⟨W.heap.size, W.heap.size + 1, h4, by omega, ?_, newS_at (by simp), rfl⟩
        exact (Below.heap_alloc _ _ _ (by simp)).trans (newS_at rfl)
      case done =>
        rintro D W hD ⟨⟨v', h1, h2⟩, h3, h4⟩ hW
        have HW := hid hW; have H1 := hid h1; have H3 := hid h3; have HD := hid hD
        clear hW h1 h3
        gi_wp2
        refine ⟨⟨k + 1, D :: Ds, _, _, _, _, _, _, _, _, by omega, rfl, H3.out.put (by have := HD.out; omega) (fun d hd => by have := hMlt d hd; have := HD.out; omega) HW.out, v', ?_⟩, ?_⟩
        · rw [allT_take hlt, ← HH.out]; exact H1.out
        · simp [intOf]; omega
      case body =>
        rintro l' k' p a' W hx ⟨⟨v', h1, h2⟩, h3, h4⟩ ⟨n1, n2, q1, q2, q3, q4, rfl⟩
        have HLEN : Hid ((allT f b E l (H.take k) ++ tellL f b E ((prL h l).take k')).length ≤ 8000) := by
          refine hid ?_
          have i1 := allT_len f b E l (H.take k)
          have i2 : (H.take k).length * (l.length + 1) ≤ 12 * 601 := Nat.mul_le_mul (by rw [List.length_take]; omega) (by omega)
          have i3 := tell_len f b E h l k'
          rw [List.length_append]
          omega
        have HTK := hid (tell_take (f := f) (b := b) (E := E) hx)
        obtain ⟨Ls, hLs⟩ : ∃ Ls, Ls = allT f b E l (H.take k) ++ tellL f b E ((prL h l).take k') := ⟨_, rfl⟩
        rw [← hLs] at h1 HLEN
        have HLS := hid hLs
        clear hLs
        obtain ⟨c1, c2, c3, c4, c5⟩ := sti_cells h1
        obtain ⟨y1, y2, y3⟩ := ck_cells q3
        obtain ⟨z1, z2, z3⟩ := ck_cells q4
        have H1 := hid h1; have H3 := hid h3; have HX := hid hx; have Q3 := hid q3; have Q4 := hid q4
        clear h1 h3 c1 c2 c3 c5 hx q3 q4
        gi_wp2
        refine ⟨trivial, (CallsIn.inRound l' (callsIn_wide.2 (hF p W ⟨_, List.mem_of_getElem? HX.out⟩ H1.out.low))).mono ?_⟩
        rintro e W6 ⟨rfl, hb6⟩
        obtain ⟨i0, hi, hz0, hz1, hz2⟩ := infoX_parts
        have hb7 := hb6.alloc hb6.size (.cells #[.int .i64 (f p).x, .int .i64 (f p).y] 68)
        have h7 := H1.out.more hb7
        obtain ⟨-, d2, d3, -, d5⟩ := sti_cells h7
        have hn7 : (W6.alloc (.cells #[.int .i64 (f p).x, .int .i64 (f p).y] 68)).heap[W6.heap.size]? = _ := newS_at rfl
        have x0 := cell_of_row _ _ 0 _ _ _ hn7
        have x1 := cell_of_row _ _ 1 _ _ _ hn7
        simp only [List.getElem?_toArray, List.getElem?_cons_zero, List.getElem?_cons_succ] at x0 x1
        have H7 := hid h7; have HB7 := hid hb7
        clear h7 hb7 hb6 hn7 c4 y1 y2 y3 z1 z2 z3
        gi_wp2_with (refine wpListIn_append_where _ rfl _ _ 28 rfl (w.heap.size + 5) 68 i0 (.agg #[.int .i64 0, .int .i64 0]) 2 16 Try.underlying28 hi hz0 hz1 hz2 rfl (by decide) _ _ _ rfl (World.ownsRow.alloc H7.out.own _) ⟨W6.heap.size + 1, 0, none⟩ 1 1 [.int .i64 (max (f p).x b), .int .i64 (min (f p).y E)] rfl rfl (cell_two_new (by simp)) two_cell1 (by decide) (by have := HLEN.out; unfold maxLen; omega) (by have := HLEN.out; omega) (by have := (Array.getElem?_eq_some_iff.1 H7.out.box).1; simp at this ⊢; omega) ?_; intro v8 w8 hown8 hgrow8 hwh8; have hbx : w8.heap[w.heap.size + 1 + 1 + 1 + 1]? = some (Obj.cells #[v'] 28 (0, 0)) := (hgrow8.block _ (by have := (Array.getElem?_eq_some_iff.1 H7.out.box).1; simp at this ⊢; omega) (fun e => by have := World.ownsRow.lt H7.out.own _ e.symm; omega)).trans ((Below.heap_alloc _ _ _ (Array.getElem?_eq_some_iff.1 H7.out.box).1).trans H7.out.box); have f5 := frozen_of_row w8 _ 0 _ _ hbx; have g5 := cell_of_row w8 _ 0 _ _ _ hbx; simp only [List.getElem?_toArray, List.getElem?_cons_zero] at g5; have HBX := hid hbx; obtain ⟨va8, vc8, rfl⟩ := rows_shape hown8; have HO8 := hid hown8; have HG8 := hid hgrow8; have HW8 := hid hwh8; clear hbx hown8 hgrow8 hwh8)
        obtain ⟨t1, t2, t3, t4, t5⟩ := body_end (s := ⟨max (f p).x b, min (f p).y E⟩) (n0 := wr.heap.size + 2) (y0 := y0) (B := W5.heap.size) H1.out (HB7.out.alloc HB7.out.size _) HO8.out HG8.out HW8.out HBX.out h4 h2
        exact ⟨t1, t2, ⟨_, by rw [HTK.out, ← List.append_assoc, ← HLS.out]; exact t3, t4⟩, H3.out.keep (fun D _ e => t5 D e), Nat.le_trans h4 t2.size⟩
    · obtain rfl : k = H.length := by omega
      rw [List.take_length] at hS
      have c5 := (sti_cells hS).2.2.2.2
      gi_wp2
      refine ⟨trivial, ?_⟩
      refine (callsIn_wide.2 (union_any v _ wr hS.own.row (by have := allT_len f b E l H; have : H.length * (l.length + 1) ≤ 12 * 601 := Nat.mul_le_mul hH (by omega); omega))).mono ?_
      rintro e W7 ⟨u, m, rfl, hu, ho, hb⟩
      gi_wp2
      refine leaves_marks Ds W7 (hM.keep (fun D _ e => (hb.block D (Array.getElem?_eq_some_iff.1 e).1).trans e)) fun W8 hb8 hc8 => ?_
      refine ⟨u, by simp [results, Try.results47, go_sem], ⟨u, m, rfl, hu, (ho.cells hc8).low hS.low.size, ?_⟩⟩
      exact (hS.low.trans (hb.mono hS.low.size)).trans (hb8.mono (by omega))
end Go.Proofs.Ytjfakhfkbnnbcaa
