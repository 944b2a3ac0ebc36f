/- Lists of words; walk of Faults: contract. -/
import Derived.Test.YtlhjiikbehmamaaOi
import Derived.Laws.AppendOwn
namespace Go.Proofs.Ytlhjiikbehmamaa
open Go.RowKit

/-- A list of words of the call's own, and one that is read. -/
def OwnZ (w : World) (base : Nat) (v : Value) (l : List ByteArray) : Prop := w.ownsRow base 9 1 v l.length (l.map Value.string)
def RowZ (w : World) (v : Value) (l : List ByteArray) : Prop := ∃ a b o cap, v = .slice a l.length cap ∧ (l = [] ∨ a = some ⟨b, o, none⟩) ∧ ∀ k (h : k < l.length), w.cell? ⟨b, o + k, none⟩ = some (.string l[k])
theorem RowZ.keep {W w2 : World} {v : Value} {l : List ByteArray} (h : RowZ W v l) (hb : Below W.heap.size W w2) : RowZ w2 v l := by
  obtain ⟨a, b, o, cap, h1, h2, h3⟩ := h
  exact ⟨a, b, o, cap, h1, h2, fun k hk => keep_cell hb (h3 k hk)⟩
theorem rowZ_nil (w : World) : RowZ w (.slice none 0 0) [] := ⟨none, 0, 0, 0, rfl, .inl rfl, fun k h => absurd h (Nat.not_lt_zero k)⟩
theorem ownZ_nil (w : World) (base : Nat) : OwnZ w base (.slice none 0 0) [] := World.ownsRow_nil w base _ 1
theorem OwnZ.row {w : World} {base : Nat} {v : Value} {l : List ByteArray} (h : OwnZ w base v l) : RowZ w v l := by
  rcases h.2 with ⟨rfl, h0⟩ | ⟨g, cap, cur, rfl, _, hg, hcap, hmx, hcs, ht⟩
  · have : l = [] := List.length_eq_zero_iff.1 h0
    subst this
    exact rowZ_nil w
  · refine ⟨some ⟨g, 0, none⟩, g, 0, cap, rfl, .inr rfl, fun k hk => ?_⟩
    have h1 : (l.map Value.string)[k]? = some (.string l[k]) := by simp [hk]
    rw [← ht] at h1
    rw [List.getElem?_take_of_lt (by omega)] at h1
    rw [Nat.zero_add, cell_of_row w g _ cur _ _ hg]
    simpa using h1
theorem OwnZ.app {w : World} {base : Nat} {v : Value} {l : List ByteArray} {x : ByteArray} (h : w.ownsRow base 9 1 v (l.length + 1) (l.map Value.string ++ [.string x])) : OwnZ w base v (l ++ [x]) := by
  unfold OwnZ
  rw [List.length_append, List.map_append]
  exact h
theorem OwnZ.keep {W w2 : World} {base : Nat} {v : Value} {l : List ByteArray} (h : OwnZ W base v l) (hb : Below W.heap.size W w2) : OwnZ w2 base v l := by
  refine ⟨h.1, ?_⟩
  rcases h.2 with hn | ⟨g, cap, cur, rfl, hb', hg, rest⟩
  · exact .inl hn
  · exact .inr ⟨g, cap, cur, rfl, hb', (hb.block _ (Array.getElem?_eq_some_iff.1 hg).1).trans hg, rest⟩
theorem infoStr : (Try.prog.info? 9).map (fun i => (i.zero, i.size, i.bytes)) = some (some (.string ⟨#[]⟩), 1, 16) := by kernel_rfl
theorem cell_str {w : World} {u : Value} {T : TypeId} {m : Nat} (hm : w.heap.size = m) : ∀ j x, [u][j]? = some x → (w.alloc (.cells #[u] T)).cell? ((⟨m, 0, none⟩ : Addr).add j) = some x := by
  subst hm
  intro j y h
  match j with
  | 0 => simp at h; subst h; simp [Addr.add]
  | j + 1 => simp at h
theorem one_str {x : ByteArray} : ∀ u ∈ [Value.string x], u.oneCell' = true := by intro u hu; simp at hu; subst hu; rfl
theorem below_strs {W W2 w1 : World} {base : Nat} {v : Value} {l : List ByteArray} {o : Obj} (hW : Below W.heap.size W W2) (h : OwnZ W2 base v l) (hb : W.heap.size ≤ base) (hg : (W2.alloc o).grownBy w1 v.ownBlock) : Below W.heap.size W w1 :=
  (hW.alloc hW.size _).grown hg (by have := hW.size; simp; omega) (fun k hk => by have := (World.ownsRow.lt h k hk).1; omega)
/-- What was there when the list began is kept, too. -/
theorem low_strs {W2 w1 : World} {base : Nat} {v : Value} {l : List ByteArray} {o : Obj} (hs : base ≤ W2.heap.size) (h : OwnZ W2 base v l) (hg : (W2.alloc o).grownBy w1 v.ownBlock) : Below base W2 w1 :=
  ((Below.refl _ _).alloc hs _).grown hg (by simp; omega) (fun k hk => (World.ownsRow.lt h k hk).1)
/-- Words and an error. -/
def WordP (L : List ByteArray) (c : Int) (w : World) (e : Ending) (w' : World) : Prop := ∃ v, e = .returned (.tuple #[v, .int .i64 c]) ∧ RowZ w' v L ∧ Below w.heap.size w w'
set_option maxRecDepth 20000 in
set_option maxHeartbeats 8000000 in
theorem kfaults_at (n : Nm) (x : Sh) (w : World) (B : List ByteArray) (C : Int) (hB : B = if okG n x then fltL n x 6 else []) (hC : C = if okG n x then 0 else 1) : Calls Try.prog 23 #[.agg #[.int .i64 n.bl, .int .i64 n.bh, .int .i64 n.cl, .int .i64 n.ch, .int .i64 n.pc, .int .i64 n.wr, .int .i64 n.tl, .int .i64 n.th, .int .i64 n.sl, .int .i64 n.sh], .agg #[.int .i64 x.tk, .int .i64 x.hd, .int .i64 x.bh, .int .i64 x.ch, .int .i64 x.ht, .int .i64 x.ep, .int .i64 x.bp, .int .i64 x.wr, .int .i64 x.th, .int .i64 x.cs]] w (WordP B C w) := by
  have HB := hid hB
  have HC := hid hC
  clear hB hC
  have HX0 := hid (box2_start (w := w) (A := #[.int .i64 n.bl, .int .i64 n.bh, .int .i64 n.cl, .int .i64 n.ch, .int .i64 n.pc, .int .i64 n.wr, .int .i64 n.tl, .int .i64 n.th, .int .i64 n.sl, .int .i64 n.sh]) (B := #[.int .i64 x.tk, .int .i64 x.hd, .int .i64 x.bh, .int .i64 x.ch, .int .i64 x.ht, .int .i64 x.ep, .int .i64 x.bp, .int .i64 x.wr, .int .i64 x.th, .int .i64 x.cs]) (T := 23) (T' := 28) (fz := (0, 0)) (fz' := (0, 0)))
  have HBX := hid (fun w1 (g : Below ((w.alloc (.cells #[.int .i64 n.bl, .int .i64 n.bh, .int .i64 n.cl, .int .i64 n.ch, .int .i64 n.pc, .int .i64 n.wr, .int .i64 n.tl, .int .i64 n.th, .int .i64 n.sl, .int .i64 n.sh] 23)).alloc (.cells #[.int .i64 x.tk, .int .i64 x.hd, .int .i64 x.bh, .int .i64 x.ch, .int .i64 x.ht, .int .i64 x.ep, .int .i64 x.bp, .int .i64 x.wr, .int .i64 x.th, .int .i64 x.cs] 28)).heap.size ((w.alloc (.cells #[.int .i64 n.bl, .int .i64 n.bh, .int .i64 n.cl, .int .i64 n.ch, .int .i64 n.pc, .int .i64 n.wr, .int .i64 n.tl, .int .i64 n.th, .int .i64 n.sl, .int .i64 n.sh] 23)).alloc (.cells #[.int .i64 x.tk, .int .i64 x.hd, .int .i64 x.bh, .int .i64 x.ch, .int .i64 x.ht, .int .i64 x.ep, .int .i64 x.bp, .int .i64 x.wr, .int .i64 x.th, .int .i64 x.cs] 28)) w1) => HX0.out.keep g)
  cases hn : nmB n
  · have HN := hid hn
    have hE : okG n x = false := by unfold okG; rw [hn]; rfl
    obtain rfl : B = [] := by rw [HB.out, hE]; rfl
    obtain rfl : C = 1 := by rw [HC.out, hE]; rfl
    clear hE
    clear hn
    go_enter Try.func23, Try.ntmps23
    go_wp2_with fail
    refine (knorm_any n _).mono ?_
    rintro e w1 ⟨rfl, hb⟩
    rw [HN.out]
    have HX1 := hid (HBX.out _ hb)
    clear hb
    go_wp2_with fail
    refine bodyPost_ret (v := .tuple #[.slice none 0 0, .int .i64 1]) (by simp [results, Try.results23, go_sem]) rfl ?_
    exact ⟨_, rfl, rowZ_nil _, HX1.out.low⟩
  have HN := hid hn
  clear hn
  cases hx : shB x
  · have HX := hid hx
    have hE : okG n x = false := by unfold okG; rw [HN.out, hx]; rfl
    obtain rfl : B = [] := by rw [HB.out, hE]; rfl
    obtain rfl : C = 1 := by rw [HC.out, hE]; rfl
    clear hE
    clear hx
    go_enter Try.func23, Try.ntmps23
    go_wp2_with fail
    refine (knorm_any n _).mono ?_
    rintro e w1 ⟨rfl, hb⟩
    rw [HN.out]
    have HX1 := hid (HBX.out _ hb)
    obtain ⟨b0, b1, b2, b3, b4, b5, b6, b7, b8, b9⟩ := HX1.out.sheet
    clear hb
    go_wp2_with fail
    refine (ksheet_any x _).mono ?_
    rintro e w2 ⟨rfl, hb⟩
    rw [HX.out]
    have HX1 := hid (HX1.out.keep hb)
    clear hb b0 b1 b2 b3 b4 b5 b6 b7 b8 b9
    go_wp2_with fail
    refine bodyPost_ret (v := .tuple #[.slice none 0 0, .int .i64 1]) (by simp [results, Try.results23, go_sem]) rfl ?_
    exact ⟨_, rfl, rowZ_nil _, HX1.out.low⟩
  have HX := hid hx
  have hE : okG n x = true := by unfold okG; rw [HN.out, hx]; rfl
  have HG := hid (show B = fltL n x 6 by rw [HB.out, hE]; rfl)
  obtain rfl : C = 0 := by rw [HC.out, hE]; rfl
  clear hE
  clear hx
  go_enter Try.func23, Try.ntmps23
  go_wp2_with fail
  refine (knorm_any n _).mono ?_
  rintro e w1 ⟨rfl, hb⟩
  rw [HN.out]
  have HX1 := hid (HBX.out _ hb)
  obtain ⟨b0, b1, b2, b3, b4, b5, b6, b7, b8, b9⟩ := HX1.out.sheet
  clear hb
  go_wp2_with fail
  refine (ksheet_any x _).mono ?_
  rintro e w2 ⟨rfl, hb⟩
  rw [HX.out]
  have HX2 := hid (HX1.out.keep hb)
  clear hb b0 b1 b2 b3 b4 b5 b6 b7 b8 b9 HX1
  obtain ⟨i0, hti, hz0, hz1, hz2⟩ := info_parts infoStr
  obtain ⟨n0, n1, n2, n3, n4, n5, n6, n7, n8, n9⟩ := HX2.out.norm
  go_wp2_with fail
  refine (faultsBy_any n _).mono ?_
  intro e w3 hf
  obtain ⟨v, rfl, hF, hb⟩ := faultR_of hf
  have HX3 := hid (HX2.out.keep hb)
  have HF := hid (fun W (g : Below w3.heap.size w3 W) => hF.keep g)
  obtain ⟨g, rfl, _⟩ := hF
  have hsz3 : w.heap.size + 2 ≤ w3.heap.size := HX3.out.sz
  clear hf hb n0 n1 n2 n3 n4 n5 n6 n7 n8 n9
  go_wp2_with fail
  go_loopw [6, 20] (fun s t wr => ∃ k : Nat, k ≤ 6 ∧ t = .int .i64 (k : Int) ∧ Hid (OwnZ wr w3.heap.size s (fltL n x k)) ∧ Hid (Below w3.heap.size w3 wr)) (fun _ t _ => 6 - (intOf t).toNat)
  case atStart => exact ⟨0, Nat.zero_le _, rfl, ownZ_nil _ _, Below.refl _ _⟩
  case round =>
    obtain ⟨k, hk, rfl, hown, hB⟩ := hrel
    by_cases hlt : k < 6
    · have hlt' : (k : Int) < 6 := by omega
      obtain ⟨g', hg, hat⟩ := HF.out _ hB.out
      injection hg with hg
      injection hg with hg
      injection hg with hg
      subst hg
      obtain ⟨F, caps, c0, c1, hrun, hcall⟩ := hat k hlt
      have hrunx := fun W => hrun W x
      have HCL := hid hcall
      obtain ⟨wd, hwd⟩ : ∃ wd, wd = wdB k := ⟨_, rfl⟩
      rw [← hwd] at c0
      have HWD := hid hwd
      have HB1 := hid (show Below wr.heap.size wr (wr.alloc (.cells #[.string wd, .func (.func F) #[] caps] 68)) from (Below.refl _ _).alloc (Nat.le_refl _) _)
      obtain ⟨b0, b1, b2, b3, b4, b5, b6, b7, b8, b9⟩ := ((HX3.out.keep hB.out).keep HB1.out).sheet
      have hf0 := cell_alloc_new wr #[.string wd, .func (.func F) #[] caps] 68 (0, 0) 0
      have HLT := hid hlt
      clear hcall hat hlt hwd hrun
      cases hf : fltB n x k
      · have HE := hid (fltL_no hf)
        have HFF := hid hf
        clear hf hf0
        go_wp2_with fail
        refine (HCL.out _ x HB1.out HX.out).mono ?_
        rintro e w4 ⟨rfl, hb⟩
        rw [HFF.out]
        have HB4 := hid (bstep HB1.out HB1.out.size hb)
        have HO4 : Hid (OwnZ w4 w3.heap.size u6 (fltL n x (k + 1))) := by rw [HE.out]; exact hown.out.keep HB4.out
        have HL4 := hid (bstep hB.out hB.out.size HB4.out)
        clear hb b0 b1 b2 b3 b4 b5 b6 b7 b8 b9
        go_wp2_with fail
        go_roundw
        case rel => exact ⟨k + 1, HLT.out, by go_num, HO4, HL4⟩
        case measure => have := HLT.out; simp [intOf]; omega
      · have HE := hid (fltL_yes hf)
        have HFF := hid hf
        clear hf
        go_wp2_with fail
        refine (HCL.out _ x HB1.out HX.out).mono ?_
        rintro e w4 ⟨rfl, hb⟩
        rw [HFF.out]
        have hf4 := keep_cell hb hf0
        have HB4 := hid (bstep HB1.out HB1.out.size hb)
        have HO4 := hid (hown.out.keep HB4.out)
        have HL4 := hid (bstep hB.out hB.out.size HB4.out)
        obtain ⟨N, hN⟩ : ∃ N, N = (fltL n x k).length := ⟨_, rfl⟩
        have HOr := hid (show w4.ownsRow w3.heap.size 9 1 u6 N ((fltL n x k).map Value.string) by rw [hN]; exact HO4.out)
        have hN5 : N ≤ 6 := by have := fltL_len n x k; have := HLT.out; rw [hN]; omega
        have HNN := hid hN
        clear hb hN hf0 b0 b1 b2 b3 b4 b5 b6 b7 b8 b9
        go_wp2_with (at_builtin; refine wpList_append_own _ rfl _ _ 40 rfl w3.heap.size 9 i0 (.string ⟨#[]⟩) 1 16 Try.underlying40 hti hz0 hz1 hz2 rfl (by decide) _ _ _ rfl (World.ownsRow.alloc HOr.out _) ⟨w4.heap.size, 0, none⟩ 1 1 [.string wd] rfl rfl (cell_str rfl) one_str (by unfold maxLen; omega) (by omega) (by have := HL4.out.size; simp; omega) ?_; intro v1 w6 hown6 hgrow6 _)
        have HL6 := hid (below_strs HL4.out HO4.out (Nat.le_refl _) hgrow6)
        have HO6 : Hid (OwnZ w6 w3.heap.size v1 (fltL n x (k + 1))) := by rw [HE.out, ← HWD.out]; exact OwnZ.app (by rw [← HNN.out]; exact hown6)
        clear hown6 hgrow6
        go_roundw
        case rel => exact ⟨k + 1, HLT.out, by go_num, HO6, HL6⟩
        case measure => have := HLT.out; simp [intOf]; omega
    · obtain rfl : k = 6 := by omega
      have HLL := hid (bstep HX3.out.low HX3.out.low.size hB.out)
      go_wp2
      refine bodyPost_ret (v := .tuple #[u6, .int .i64 0]) (by simp [results, Try.results23, go_sem]) rfl ?_
      exact ⟨_, rfl, by rw [HG.out]; exact hown.out.row, HLL.out⟩
end Go.Proofs.Ytlhjiikbehmamaa
