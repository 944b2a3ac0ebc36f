/- Texts of this seat, one behind the other. -/
import Derived.Test.YtjfakhfkbnnbcaaP12
import Derived.Laws.AppendOwn
import Derived.Deep.DeepCutAuto
/- Lists of words; walk of Faults: contract. -/
namespace Go.Proofs.Ytjfakhfkbnnbcaa
open Go.RowKit

/-- A list of words of the call's own, and one that is read. -/
def OwnZ (w : World) (base : Nat) (v : Value) (l : List ByteArray) : Prop := w.ownsRow base 9 1 v l.length (l.map Value.string)
def RowZ (w : World) (v : Value) (l : List ByteArray) : Prop := ∃ a b o cap, v = .slice a l.length cap ∧ (l = [] ∨ a = some ⟨b, o, none⟩) ∧ ∀ k (h : k < l.length), w.cell? ⟨b, o + k, none⟩ = some (.string l[k])
theorem RowZ.keep {W w2 : World} {v : Value} {l : List ByteArray} (h : RowZ W v l) (hb : Below W.heap.size W w2) : RowZ w2 v l := by
  obtain ⟨a, b, o, cap, h1, h2, h3⟩ := h
  exact ⟨a, b, o, cap, h1, h2, fun k hk => keep_cell hb (h3 k hk)⟩
theorem rowZ_nil (w : World) : RowZ w (.slice none 0 0) [] := ⟨none, 0, 0, 0, rfl, .inl rfl, fun k h => absurd h (Nat.not_lt_zero k)⟩
theorem ownZ_nil (w : World) (base : Nat) : OwnZ w base (.slice none 0 0) [] := World.ownsRow_nil w base _ 1
theorem OwnZ.row {w : World} {base : Nat} {v : Value} {l : List ByteArray} (h : OwnZ w base v l) : RowZ w v l := by
  rcases h.2 with ⟨rfl, h0⟩ | ⟨g, cap, cur, rfl, _, hg, hcap, hmx, hcs, ht⟩
  · have : l = [] := List.length_eq_zero_iff.1 h0
    subst this
    exact rowZ_nil w
  · refine ⟨some ⟨g, 0, none⟩, g, 0, cap, rfl, .inr rfl, fun k hk => ?_⟩
    have h1 : (l.map Value.string)[k]? = some (.string l[k]) := by simp [hk]
    rw [← ht] at h1
    rw [List.getElem?_take_of_lt (by omega)] at h1
    rw [Nat.zero_add, cell_of_row w g _ cur _ _ hg]
    simpa using h1
theorem OwnZ.app {w : World} {base : Nat} {v : Value} {l : List ByteArray} {x : ByteArray} (h : w.ownsRow base 9 1 v (l.length + 1) (l.map Value.string ++ [.string x])) : OwnZ w base v (l ++ [x]) := by
  unfold OwnZ
  rw [List.length_append, List.map_append]
  exact h
theorem OwnZ.keep {W w2 : World} {base : Nat} {v : Value} {l : List ByteArray} (h : OwnZ W base v l) (hb : Below W.heap.size W w2) : OwnZ w2 base v l := by
  refine ⟨h.1, ?_⟩
  rcases h.2 with hn | ⟨g, cap, cur, rfl, hb', hg, rest⟩
  · exact .inl hn
  · exact .inr ⟨g, cap, cur, rfl, hb', (hb.block _ (Array.getElem?_eq_some_iff.1 hg).1).trans hg, rest⟩
theorem infoStr : (Try.prog.info? 9).map (fun i => (i.zero, i.size, i.bytes)) = some (some (.string ⟨#[]⟩), 1, 16) := by kernel_rfl
theorem cell_str {w : World} {u : Value} {T : TypeId} {m : Nat} (hm : w.heap.size = m) : ∀ j x, [u][j]? = some x → (w.alloc (.cells #[u] T)).cell? ((⟨m, 0, none⟩ : Addr).add j) = some x := by
  subst hm
  intro j y h
  match j with
  | 0 => simp at h; subst h; simp [Addr.add]
  | j + 1 => simp at h
theorem one_str {x : ByteArray} : ∀ u ∈ [Value.string x], u.oneCell' = true := by intro u hu; simp at hu; subst hu; rfl
theorem below_strs {W W2 w1 : World} {base : Nat} {v : Value} {l : List ByteArray} {o : Obj} (hW : Below W.heap.size W W2) (h : OwnZ W2 base v l) (hb : W.heap.size ≤ base) (hg : (W2.alloc o).grownBy w1 v.ownBlock) : Below W.heap.size W w1 :=
  (hW.alloc hW.size _).grown hg (by have := hW.size; simp; omega) (fun k hk => by have := (World.ownsRow.lt h k hk).1; omega)
/-- What was there when the list began is kept, too. -/
theorem low_strs {W2 w1 : World} {base : Nat} {v : Value} {l : List ByteArray} {o : Obj} (hs : base ≤ W2.heap.size) (h : OwnZ W2 base v l) (hg : (W2.alloc o).grownBy w1 v.ownBlock) : Below base W2 w1 :=
  ((Below.refl _ _).alloc hs _).grown hg (by simp; omega) (fun k hk => (World.ownsRow.lt h k hk).1)
/-- Words and an error. -/
def WordP (L : List ByteArray) (c : Int) (w : World) (e : Ending) (w' : World) : Prop := ∃ v, e = .returned (.tuple #[v, .int .i64 c]) ∧ RowZ w' v L ∧ Below w.heap.size w w'
end Go.Proofs.Ytjfakhfkbnnbcaa

/- Walk of the reference's faults: contract. -/
namespace Go.Proofs.Ytjfakhfkbnnbcaa
open Go.RowKit

theorem Box2.grownZ {w wr w1 : World} {A B : Array Value} {v : Value} {l : List ByteArray} {o : Obj} (h : Box2 w wr A B) (hv : OwnZ wr (w.heap.size + 2) v l) (hg : (wr.alloc o).grownBy w1 v.ownBlock) : Box2 w w1 A B := by
  have hl := low_strs (show w.heap.size + 2 ≤ wr.heap.size from h.sz) hv hg
  refine ⟨fun i => ?_, fun i => ?_, Nat.lt_of_lt_of_le h.sz hl.size, below_strs h.low hv (by omega) hg⟩
  · rw [hl.cell (p := ⟨w.heap.size, i, none⟩) (show w.heap.size < w.heap.size + 2 by omega)]
    exact h.fst i
  · rw [hl.cell (p := ⟨w.heap.size + 1, i, none⟩) (show w.heap.size + 1 < w.heap.size + 2 by omega)]
    exact h.snd i
theorem sg_new2 {w W : World} {n : Nm} {x : Sh} (h : Box2 w W #[.int .i64 n.bl, .int .i64 n.bh, .int .i64 n.cl, .int .i64 n.ch, .int .i64 n.pc, .int .i64 n.wr, .int .i64 n.tl, .int .i64 n.th, .int .i64 n.sl, .int .i64 n.sh] #[.int .i64 x.tk, .int .i64 x.hd, .int .i64 x.bh, .int .i64 x.ch, .int .i64 x.ht, .int .i64 x.ep, .int .i64 x.bp, .int .i64 x.wr, .int .i64 x.th, .int .i64 x.cs]) : World.cell? (W.drew) ⟨w.heap.size, 0, none⟩ = some (.int .i64 n.bl) ∧ World.cell? (W.drew) ⟨w.heap.size, 1, none⟩ = some (.int .i64 n.bh) ∧ World.cell? (W.drew) ⟨w.heap.size, 2, none⟩ = some (.int .i64 n.cl) ∧ World.cell? (W.drew) ⟨w.heap.size, 3, none⟩ = some (.int .i64 n.ch) ∧ World.cell? (W.drew) ⟨w.heap.size, 4, none⟩ = some (.int .i64 n.pc) ∧ World.cell? (W.drew) ⟨w.heap.size, 5, none⟩ = some (.int .i64 n.wr) ∧ World.cell? (W.drew) ⟨w.heap.size, 6, none⟩ = some (.int .i64 n.tl) ∧ World.cell? (W.drew) ⟨w.heap.size, 7, none⟩ = some (.int .i64 n.th) ∧ World.cell? (W.drew) ⟨w.heap.size, 8, none⟩ = some (.int .i64 n.sl) ∧ World.cell? (W.drew) ⟨w.heap.size, 9, none⟩ = some (.int .i64 n.sh) ∧ World.cell? (W.drew) ⟨w.heap.size + 1, 0, none⟩ = some (.int .i64 x.tk) ∧ World.cell? (W.drew) ⟨w.heap.size + 1, 1, none⟩ = some (.int .i64 x.hd) ∧ World.cell? (W.drew) ⟨w.heap.size + 1, 2, none⟩ = some (.int .i64 x.bh) ∧ World.cell? (W.drew) ⟨w.heap.size + 1, 3, none⟩ = some (.int .i64 x.ch) ∧ World.cell? (W.drew) ⟨w.heap.size + 1, 4, none⟩ = some (.int .i64 x.ht) ∧ World.cell? (W.drew) ⟨w.heap.size + 1, 5, none⟩ = some (.int .i64 x.ep) ∧ World.cell? (W.drew) ⟨w.heap.size + 1, 6, none⟩ = some (.int .i64 x.bp) ∧ World.cell? (W.drew) ⟨w.heap.size + 1, 7, none⟩ = some (.int .i64 x.wr) ∧ World.cell? (W.drew) ⟨w.heap.size + 1, 8, none⟩ = some (.int .i64 x.th) ∧ World.cell? (W.drew) ⟨w.heap.size + 1, 9, none⟩ = some (.int .i64 x.cs) ∧ Below W.heap.size W (W.drew) :=
  ⟨h.fst 0, h.fst 1, h.fst 2, h.fst 3, h.fst 4, h.fst 5, h.fst 6, h.fst 7, h.fst 8, h.fst 9, h.snd 0, h.snd 1, h.snd 2, h.snd 3, h.snd 4, h.snd 5, h.snd 6, h.snd 7, h.snd 8, h.snd 9, (Below.refl _ _).drew⟩
/-- Words. -/
def ListP (L : List ByteArray) (w : World) (e : Ending) (w' : World) : Prop := ∃ v, e = .returned v ∧ RowZ w' v L ∧ Below w.heap.size w w'
set_option maxRecDepth 20000 in
set_option maxHeartbeats 16000000 in
theorem xfaults_any (n : Nm) (x : Sh) (w : World) (hx : shB x = true) : Calls Try.prog 43 #[.agg #[.int .i64 n.bl, .int .i64 n.bh, .int .i64 n.cl, .int .i64 n.ch, .int .i64 n.pc, .int .i64 n.wr, .int .i64 n.tl, .int .i64 n.th, .int .i64 n.sl, .int .i64 n.sh], .agg #[.int .i64 x.tk, .int .i64 x.hd, .int .i64 x.bh, .int .i64 x.ch, .int .i64 x.ht, .int .i64 x.ep, .int .i64 x.bp, .int .i64 x.wr, .int .i64 x.th, .int .i64 x.cs]] w (ListP (fltL n x 6) w) := by
  have HX := hid (shB_iff.1 hx)
  have hbx := hid (box2_start (w := w) (A := #[.int .i64 n.bl, .int .i64 n.bh, .int .i64 n.cl, .int .i64 n.ch, .int .i64 n.pc, .int .i64 n.wr, .int .i64 n.tl, .int .i64 n.th, .int .i64 n.sl, .int .i64 n.sh]) (B := #[.int .i64 x.tk, .int .i64 x.hd, .int .i64 x.bh, .int .i64 x.ch, .int .i64 x.ht, .int .i64 x.ep, .int .i64 x.bp, .int .i64 x.wr, .int .i64 x.th, .int .i64 x.cs]) (T := 23) (T' := 39) (fz := (0, 0)) (fz' := (0, 0)))
  have hown := hid (ownZ_nil ((w.alloc (.cells #[.int .i64 n.bl, .int .i64 n.bh, .int .i64 n.cl, .int .i64 n.ch, .int .i64 n.pc, .int .i64 n.wr, .int .i64 n.tl, .int .i64 n.th, .int .i64 n.sl, .int .i64 n.sh] 23)).alloc (.cells #[.int .i64 x.tk, .int .i64 x.hd, .int .i64 x.bh, .int .i64 x.ch, .int .i64 x.ht, .int .i64 x.ep, .int .i64 x.bp, .int .i64 x.wr, .int .i64 x.th, .int .i64 x.cs] 39)) (w.heap.size + 2))
  obtain ⟨i0, hti, hz0, hz1, hz2⟩ := info_parts infoStr
  clear hx
  go_enter Try.func43, Try.ntmps43
  obtain ⟨c, hc⟩ : ∃ c, inB x.bh n.bl n.bh = c := ⟨_, rfl⟩
  have HF := hid (show fltB n x 0 = !c by rw [← hc]; rfl)
  have HC := hid hc
  clear hc
  go_upto_region 2 with (fail)
  generalize World.alloc (World.alloc w _) _ = W0 at *
  have hown : Hid (OwnZ W0 (w.heap.size + 2) (.slice none 0 0) (fltL n x 0)) := hown
  obtain ⟨n0, n1, n2, n3, n4, n5, n6, n7, n8, n9⟩ := hbx.out.norm
  obtain ⟨b0, b1, b2, b3, b4, b5, b6, b7, b8, b9⟩ := hbx.out.sheet
  go_upto_if 13 with ((go_at_call 42; refine (kxwithin_any _ _ _ _).mono ?_; rintro e w' ⟨rfl, rfl⟩; rw [HC.out]))
  clear n0 n1 n2 n3 n4 n5 n6 n7 n8 n9 b0 b1 b2 b3 b4 b5 b6 b7 b8 b9
  go_cut [5] (fun v5 wx => Hid (OwnZ wx (w.heap.size + 2) v5 (fltL n x 1)) ∧ Hid (Box2 w wx #[.int .i64 n.bl, .int .i64 n.bh, .int .i64 n.cl, .int .i64 n.ch, .int .i64 n.pc, .int .i64 n.wr, .int .i64 n.tl, .int .i64 n.th, .int .i64 n.sl, .int .i64 n.sh] #[.int .i64 x.tk, .int .i64 x.hd, .int .i64 x.bh, .int .i64 x.ch, .int .i64 x.ht, .int .i64 x.ep, .int .i64 x.bp, .int .i64 x.wr, .int .i64 x.th, .int .i64 x.cs]))
  case first =>
    cases c
    · have HE := hid (fltL_yes (show fltB n x 0 = true from HF.out))
      obtain ⟨N, hN⟩ : ∃ N, N = (fltL n x 0).length := ⟨_, rfl⟩
      have HOr := hid (show W0.ownsRow (w.heap.size + 2) 9 1 (.slice none 0 0) N ((fltL n x 0).map Value.string) by rw [hN]; exact hown.out)
      have hN5 : N ≤ 6 := by have := fltL_len n x 0; rw [hN]; omega
      have HNN := hid hN
      clear hN
      go_wp2_with (at_builtin; refine wpList_append_own _ rfl _ _ 71 rfl (w.heap.size + 2) 9 i0 (.string ⟨#[]⟩) 1 16 Try.underlying71 hti hz0 hz1 hz2 rfl (by decide) _ _ _ rfl (World.ownsRow.alloc HOr.out _) ⟨W0.heap.size, 0, none⟩ 1 1 [.string ⟨#[98, 111, 100, 121]⟩] rfl rfl (cell_str rfl) one_str (by unfold maxLen; omega) (by omega) (by have := hbx.out.sz; simp; omega) ?_; intro v1 w6 hown6 hgrow6 _)
      have HX6 := hid (hbx.out.grownZ hown.out hgrow6)
      have HO6 : Hid (OwnZ w6 (w.heap.size + 2) v1 (fltL n x 1)) := by rw [HE.out]; exact OwnZ.app (by rw [← HNN.out]; exact hown6)
      clear hown6 hgrow6
      go_wp2_with fail
      go_meet
      exact ⟨HO6, HX6⟩
    · have HE := hid (fltL_no (show fltB n x 0 = false from HF.out))
      have HO6 : Hid (OwnZ W0 (w.heap.size + 2) (.slice none 0 0) (fltL n x 1)) := by rw [HE.out]; exact hown.out
      go_wp2_with fail
      go_meet
      exact ⟨HO6, hbx⟩
  case rest =>
    obtain ⟨hown, hbx⟩ := hcut
    clear HF HC
    obtain ⟨c, hc⟩ : ∃ c, inB x.ch n.cl n.ch = c := ⟨_, rfl⟩
    have HF := hid (show fltB n x 1 = !c by rw [← hc]; rfl)
    have HC := hid hc
    clear hc
    obtain ⟨n0, n1, n2, n3, n4, n5, n6, n7, n8, n9⟩ := hbx.out.norm
    obtain ⟨b0, b1, b2, b3, b4, b5, b6, b7, b8, b9⟩ := hbx.out.sheet
    go_upto_if 24 with ((go_at_call 42; refine (kxwithin_any _ _ _ _).mono ?_; rintro e w' ⟨rfl, rfl⟩; rw [HC.out]))
    clear n0 n1 n2 n3 n4 n5 n6 n7 n8 n9 b0 b1 b2 b3 b4 b5 b6 b7 b8 b9
    go_cut [5] (fun v5 wx => Hid (OwnZ wx (w.heap.size + 2) v5 (fltL n x 2)) ∧ Hid (Box2 w wx #[.int .i64 n.bl, .int .i64 n.bh, .int .i64 n.cl, .int .i64 n.ch, .int .i64 n.pc, .int .i64 n.wr, .int .i64 n.tl, .int .i64 n.th, .int .i64 n.sl, .int .i64 n.sh] #[.int .i64 x.tk, .int .i64 x.hd, .int .i64 x.bh, .int .i64 x.ch, .int .i64 x.ht, .int .i64 x.ep, .int .i64 x.bp, .int .i64 x.wr, .int .i64 x.th, .int .i64 x.cs]))
    case first =>
      cases c
      · have HE := hid (fltL_yes (show fltB n x 1 = true from HF.out))
        obtain ⟨N, hN⟩ : ∃ N, N = (fltL n x 1).length := ⟨_, rfl⟩
        have HOr := hid (show wc.ownsRow (w.heap.size + 2) 9 1 u5 N ((fltL n x 1).map Value.string) by rw [hN]; exact hown.out)
        have hN5 : N ≤ 6 := by have := fltL_len n x 1; rw [hN]; omega
        have HNN := hid hN
        clear hN
        go_wp2_with (at_builtin; refine wpList_append_own _ rfl _ _ 71 rfl (w.heap.size + 2) 9 i0 (.string ⟨#[]⟩) 1 16 Try.underlying71 hti hz0 hz1 hz2 rfl (by decide) _ _ _ rfl (World.ownsRow.alloc HOr.out _) ⟨wc.heap.size, 0, none⟩ 1 1 [.string ⟨#[99, 111, 118, 101, 114]⟩] rfl rfl (cell_str rfl) one_str (by unfold maxLen; omega) (by omega) (by have := hbx.out.sz; simp; omega) ?_; intro v1 w6 hown6 hgrow6 _)
        have HX6 := hid (hbx.out.grownZ hown.out hgrow6)
        have HO6 : Hid (OwnZ w6 (w.heap.size + 2) v1 (fltL n x 2)) := by rw [HE.out]; exact OwnZ.app (by rw [← HNN.out]; exact hown6)
        clear hown6 hgrow6
        go_wp2_with fail
        go_meet
        exact ⟨HO6, HX6⟩
      · have HE := hid (fltL_no (show fltB n x 1 = false from HF.out))
        have HO6 : Hid (OwnZ wc (w.heap.size + 2) u5 (fltL n x 2)) := by rw [HE.out]; exact hown.out
        go_wp2_with fail
        go_meet
        exact ⟨HO6, hbx⟩
    case rest =>
      obtain ⟨hown, hbx⟩ := hcut
      clear HF HC
      obtain ⟨c, hc⟩ : ∃ c, decide (pctT x < n.pc) = c := ⟨_, rfl⟩
      have HF := hid (show fltB n x 2 = c by rw [← hc]; rfl)
      have HC := hid hc
      clear hc
      obtain ⟨n0, n1, n2, n3, n4, n5, n6, n7, n8, n9⟩ := hbx.out.norm
      obtain ⟨b0, b1, b2, b3, b4, b5, b6, b7, b8, b9⟩ := hbx.out.sheet
      go_upto_region 6 with (fail)
      go_cut [32] (fun s wx => s = .bool c ∧ Hid (OwnZ wx (w.heap.size + 2) u5 (fltL n x 2)) ∧ Hid (Box2 w wx #[.int .i64 n.bl, .int .i64 n.bh, .int .i64 n.cl, .int .i64 n.ch, .int .i64 n.pc, .int .i64 n.wr, .int .i64 n.tl, .int .i64 n.th, .int .i64 n.sl, .int .i64 n.sh] #[.int .i64 x.tk, .int .i64 x.hd, .int .i64 x.bh, .int .i64 x.ch, .int .i64 x.ht, .int .i64 x.ep, .int .i64 x.bp, .int .i64 x.wr, .int .i64 x.th, .int .i64 x.cs]))
      case first =>
        obtain ⟨P, hP⟩ : ∃ P, P = pctT x := ⟨_, rfl⟩
        have HP := hid hP
        rw [← hP] at HC
        have hc := HC.out
        clear hP
        go_region_held3 (fun w' => World.cell? (w') ⟨w.heap.size, 0, none⟩ = some (.int .i64 n.bl) ∧ World.cell? (w') ⟨w.heap.size, 1, none⟩ = some (.int .i64 n.bh) ∧ World.cell? (w') ⟨w.heap.size, 2, none⟩ = some (.int .i64 n.cl) ∧ World.cell? (w') ⟨w.heap.size, 3, none⟩ = some (.int .i64 n.ch) ∧ World.cell? (w') ⟨w.heap.size, 4, none⟩ = some (.int .i64 n.pc) ∧ World.cell? (w') ⟨w.heap.size, 5, none⟩ = some (.int .i64 n.wr) ∧ World.cell? (w') ⟨w.heap.size, 6, none⟩ = some (.int .i64 n.tl) ∧ World.cell? (w') ⟨w.heap.size, 7, none⟩ = some (.int .i64 n.th) ∧ World.cell? (w') ⟨w.heap.size, 8, none⟩ = some (.int .i64 n.sl) ∧ World.cell? (w') ⟨w.heap.size, 9, none⟩ = some (.int .i64 n.sh) ∧ World.cell? (w') ⟨w.heap.size + 1, 0, none⟩ = some (.int .i64 x.tk) ∧ World.cell? (w') ⟨w.heap.size + 1, 1, none⟩ = some (.int .i64 x.hd) ∧ World.cell? (w') ⟨w.heap.size + 1, 2, none⟩ = some (.int .i64 x.bh) ∧ World.cell? (w') ⟨w.heap.size + 1, 3, none⟩ = some (.int .i64 x.ch) ∧ World.cell? (w') ⟨w.heap.size + 1, 4, none⟩ = some (.int .i64 x.ht) ∧ World.cell? (w') ⟨w.heap.size + 1, 5, none⟩ = some (.int .i64 x.ep) ∧ World.cell? (w') ⟨w.heap.size + 1, 6, none⟩ = some (.int .i64 x.bp) ∧ World.cell? (w') ⟨w.heap.size + 1, 7, none⟩ = some (.int .i64 x.wr) ∧ World.cell? (w') ⟨w.heap.size + 1, 8, none⟩ = some (.int .i64 x.th) ∧ World.cell? (w') ⟨w.heap.size + 1, 9, none⟩ = some (.int .i64 x.cs) ∧ Below wc.heap.size wc (w')) (first | exact sg_new2 hbx.out | assumption | exact sg_keep (by assumption) (by assumption)) ((go_at_call 62; refine (kxpct_any x _ HX.out).mono ?_; rintro e w2 ⟨rfl, hb⟩; rw [← HP.out]))
        rename_i hS
        have HB9 := hid (sg_low hS)
        have HX9 := hid (hbx.out.keep HB9.out)
        have HO9 := hid (hown.out.keep HB9.out)
        clear hS
        go_wp2_with fail
        go_meet
        exact ⟨by first | rfl | (rw [← HC.out]), HO9, HX9⟩
      case rest =>
        obtain ⟨rfl, hown, hbx⟩ := hcut
        clear n0 n1 n2 n3 n4 n5 n6 n7 n8 n9 b0 b1 b2 b3 b4 b5 b6 b7 b8 b9
        go_upto_if 32 with (fail)
        go_cut [5] (fun v5 wx => Hid (OwnZ wx (w.heap.size + 2) v5 (fltL n x 3)) ∧ Hid (Box2 w wx #[.int .i64 n.bl, .int .i64 n.bh, .int .i64 n.cl, .int .i64 n.ch, .int .i64 n.pc, .int .i64 n.wr, .int .i64 n.tl, .int .i64 n.th, .int .i64 n.sl, .int .i64 n.sh] #[.int .i64 x.tk, .int .i64 x.hd, .int .i64 x.bh, .int .i64 x.ch, .int .i64 x.ht, .int .i64 x.ep, .int .i64 x.bp, .int .i64 x.wr, .int .i64 x.th, .int .i64 x.cs]))
        case first =>
          cases c
          · have HE := hid (fltL_no (show fltB n x 2 = false from HF.out))
            have HO6 : Hid (OwnZ wc (w.heap.size + 2) u5 (fltL n x 3)) := by rw [HE.out]; exact hown.out
            go_wp2_with fail
            go_meet
            exact ⟨HO6, hbx⟩
          · have HE := hid (fltL_yes (show fltB n x 2 = true from HF.out))
            obtain ⟨N, hN⟩ : ∃ N, N = (fltL n x 2).length := ⟨_, rfl⟩
            have HOr := hid (show wc.ownsRow (w.heap.size + 2) 9 1 u5 N ((fltL n x 2).map Value.string) by rw [hN]; exact hown.out)
            have hN5 : N ≤ 6 := by have := fltL_len n x 2; rw [hN]; omega
            have HNN := hid hN
            clear hN
            go_wp2_with (at_builtin; refine wpList_append_own _ rfl _ _ 71 rfl (w.heap.size + 2) 9 i0 (.string ⟨#[]⟩) 1 16 Try.underlying71 hti hz0 hz1 hz2 rfl (by decide) _ _ _ rfl (World.ownsRow.alloc HOr.out _) ⟨wc.heap.size, 0, none⟩ 1 1 [.string ⟨#[111, 118, 101, 114, 108, 97, 112]⟩] rfl rfl (cell_str rfl) one_str (by unfold maxLen; omega) (by omega) (by have := hbx.out.sz; simp; omega) ?_; intro v1 w6 hown6 hgrow6 _)
            have HX6 := hid (hbx.out.grownZ hown.out hgrow6)
            have HO6 : Hid (OwnZ w6 (w.heap.size + 2) v1 (fltL n x 3)) := by rw [HE.out]; exact OwnZ.app (by rw [← HNN.out]; exact hown6)
            clear hown6 hgrow6
            go_wp2_with fail
            go_meet
            exact ⟨HO6, HX6⟩
        case rest =>
          obtain ⟨hown, hbx⟩ := hcut
          clear HF HC
          obtain ⟨c, hc⟩ : ∃ c, decide (n.wr < x.wr) = c := ⟨_, rfl⟩
          have HF := hid (show fltB n x 3 = c by rw [← hc]; rfl)
          have HC := hid hc
          clear hc
          obtain ⟨n0, n1, n2, n3, n4, n5, n6, n7, n8, n9⟩ := hbx.out.norm
          obtain ⟨b0, b1, b2, b3, b4, b5, b6, b7, b8, b9⟩ := hbx.out.sheet
          have hc := HC.out
          go_upto_if 40 with (fail)
          clear n0 n1 n2 n3 n4 n5 n6 n7 n8 n9 b0 b1 b2 b3 b4 b5 b6 b7 b8 b9
          clear hc
          go_cut [5] (fun v5 wx => Hid (OwnZ wx (w.heap.size + 2) v5 (fltL n x 4)) ∧ Hid (Box2 w wx #[.int .i64 n.bl, .int .i64 n.bh, .int .i64 n.cl, .int .i64 n.ch, .int .i64 n.pc, .int .i64 n.wr, .int .i64 n.tl, .int .i64 n.th, .int .i64 n.sl, .int .i64 n.sh] #[.int .i64 x.tk, .int .i64 x.hd, .int .i64 x.bh, .int .i64 x.ch, .int .i64 x.ht, .int .i64 x.ep, .int .i64 x.bp, .int .i64 x.wr, .int .i64 x.th, .int .i64 x.cs]))
          case first =>
            cases c
            · have HE := hid (fltL_no (show fltB n x 3 = false from HF.out))
              have HO6 : Hid (OwnZ wc (w.heap.size + 2) u5 (fltL n x 4)) := by rw [HE.out]; exact hown.out
              go_wp2_with fail
              go_meet
              exact ⟨HO6, hbx⟩
            · have HE := hid (fltL_yes (show fltB n x 3 = true from HF.out))
              obtain ⟨N, hN⟩ : ∃ N, N = (fltL n x 3).length := ⟨_, rfl⟩
              have HOr := hid (show wc.ownsRow (w.heap.size + 2) 9 1 u5 N ((fltL n x 3).map Value.string) by rw [hN]; exact hown.out)
              have hN5 : N ≤ 6 := by have := fltL_len n x 3; rw [hN]; omega
              have HNN := hid hN
              clear hN
              go_wp2_with (at_builtin; refine wpList_append_own _ rfl _ _ 71 rfl (w.heap.size + 2) 9 i0 (.string ⟨#[]⟩) 1 16 Try.underlying71 hti hz0 hz1 hz2 rfl (by decide) _ _ _ rfl (World.ownsRow.alloc HOr.out _) ⟨wc.heap.size, 0, none⟩ 1 1 [.string ⟨#[119, 114, 105, 110, 107, 108, 101]⟩] rfl rfl (cell_str rfl) one_str (by unfold maxLen; omega) (by omega) (by have := hbx.out.sz; simp; omega) ?_; intro v1 w6 hown6 hgrow6 _)
              have HX6 := hid (hbx.out.grownZ hown.out hgrow6)
              have HO6 : Hid (OwnZ w6 (w.heap.size + 2) v1 (fltL n x 4)) := by rw [HE.out]; exact OwnZ.app (by rw [← HNN.out]; exact hown6)
              clear hown6 hgrow6
              go_wp2_with fail
              go_meet
              exact ⟨HO6, HX6⟩
          case rest =>
            obtain ⟨hown, hbx⟩ := hcut
            clear HF HC
            obtain ⟨c, hc⟩ : ∃ c, inB x.th n.tl n.th = c := ⟨_, rfl⟩
            have HF := hid (show fltB n x 4 = !c by rw [← hc]; rfl)
            have HC := hid hc
            clear hc
            obtain ⟨n0, n1, n2, n3, n4, n5, n6, n7, n8, n9⟩ := hbx.out.norm
            obtain ⟨b0, b1, b2, b3, b4, b5, b6, b7, b8, b9⟩ := hbx.out.sheet
            go_upto_if 51 with ((go_at_call 42; refine (kxwithin_any _ _ _ _).mono ?_; rintro e w' ⟨rfl, rfl⟩; rw [HC.out]))
            clear n0 n1 n2 n3 n4 n5 n6 n7 n8 n9 b0 b1 b2 b3 b4 b5 b6 b7 b8 b9
            go_cut [5] (fun v5 wx => Hid (OwnZ wx (w.heap.size + 2) v5 (fltL n x 5)) ∧ Hid (Box2 w wx #[.int .i64 n.bl, .int .i64 n.bh, .int .i64 n.cl, .int .i64 n.ch, .int .i64 n.pc, .int .i64 n.wr, .int .i64 n.tl, .int .i64 n.th, .int .i64 n.sl, .int .i64 n.sh] #[.int .i64 x.tk, .int .i64 x.hd, .int .i64 x.bh, .int .i64 x.ch, .int .i64 x.ht, .int .i64 x.ep, .int .i64 x.bp, .int .i64 x.wr, .int .i64 x.th, .int .i64 x.cs]))
            case first =>
              cases c
              · have HE := hid (fltL_yes (show fltB n x 4 = true from HF.out))
                obtain ⟨N, hN⟩ : ∃ N, N = (fltL n x 4).length := ⟨_, rfl⟩
                have HOr := hid (show wc.ownsRow (w.heap.size + 2) 9 1 u5 N ((fltL n x 4).map Value.string) by rw [hN]; exact hown.out)
                have hN5 : N ≤ 6 := by have := fltL_len n x 4; rw [hN]; omega
                have HNN := hid hN
                clear hN
                go_wp2_with (at_builtin; refine wpList_append_own _ rfl _ _ 71 rfl (w.heap.size + 2) 9 i0 (.string ⟨#[]⟩) 1 16 Try.underlying71 hti hz0 hz1 hz2 rfl (by decide) _ _ _ rfl (World.ownsRow.alloc HOr.out _) ⟨wc.heap.size, 0, none⟩ 1 1 [.string ⟨#[116, 104, 105, 99, 107, 110, 101, 115, 115]⟩] rfl rfl (cell_str rfl) one_str (by unfold maxLen; omega) (by omega) (by have := hbx.out.sz; simp; omega) ?_; intro v1 w6 hown6 hgrow6 _)
                have HX6 := hid (hbx.out.grownZ hown.out hgrow6)
                have HO6 : Hid (OwnZ w6 (w.heap.size + 2) v1 (fltL n x 5)) := by rw [HE.out]; exact OwnZ.app (by rw [← HNN.out]; exact hown6)
                clear hown6 hgrow6
                go_wp2_with fail
                go_meet
                exact ⟨HO6, HX6⟩
              · have HE := hid (fltL_no (show fltB n x 4 = false from HF.out))
                have HO6 : Hid (OwnZ wc (w.heap.size + 2) u5 (fltL n x 5)) := by rw [HE.out]; exact hown.out
                go_wp2_with fail
                go_meet
                exact ⟨HO6, hbx⟩
            case rest =>
              obtain ⟨hown, hbx⟩ := hcut
              clear HF HC
              obtain ⟨c, hc⟩ : ∃ c, inB x.cs n.sl n.sh = c := ⟨_, rfl⟩
              have HF := hid (show fltB n x 5 = !c by rw [← hc]; rfl)
              have HC := hid hc
              clear hc
              obtain ⟨n0, n1, n2, n3, n4, n5, n6, n7, n8, n9⟩ := hbx.out.norm
              obtain ⟨b0, b1, b2, b3, b4, b5, b6, b7, b8, b9⟩ := hbx.out.sheet
              go_upto_if 62 with ((go_at_call 42; refine (kxwithin_any _ _ _ _).mono ?_; rintro e w' ⟨rfl, rfl⟩; rw [HC.out]))
              clear n0 n1 n2 n3 n4 n5 n6 n7 n8 n9 b0 b1 b2 b3 b4 b5 b6 b7 b8 b9
              go_cut [5] (fun v5 wx => Hid (OwnZ wx (w.heap.size + 2) v5 (fltL n x 6)) ∧ Hid (Box2 w wx #[.int .i64 n.bl, .int .i64 n.bh, .int .i64 n.cl, .int .i64 n.ch, .int .i64 n.pc, .int .i64 n.wr, .int .i64 n.tl, .int .i64 n.th, .int .i64 n.sl, .int .i64 n.sh] #[.int .i64 x.tk, .int .i64 x.hd, .int .i64 x.bh, .int .i64 x.ch, .int .i64 x.ht, .int .i64 x.ep, .int .i64 x.bp, .int .i64 x.wr, .int .i64 x.th, .int .i64 x.cs]))
              case first =>
                cases c
                · have HE := hid (fltL_yes (show fltB n x 5 = true from HF.out))
                  obtain ⟨N, hN⟩ : ∃ N, N = (fltL n x 5).length := ⟨_, rfl⟩
                  have HOr := hid (show wc.ownsRow (w.heap.size + 2) 9 1 u5 N ((fltL n x 5).map Value.string) by rw [hN]; exact hown.out)
                  have hN5 : N ≤ 6 := by have := fltL_len n x 5; rw [hN]; omega
                  have HNN := hid hN
                  clear hN
                  go_wp2_with (at_builtin; refine wpList_append_own _ rfl _ _ 71 rfl (w.heap.size + 2) 9 i0 (.string ⟨#[]⟩) 1 16 Try.underlying71 hti hz0 hz1 hz2 rfl (by decide) _ _ _ rfl (World.ownsRow.alloc HOr.out _) ⟨wc.heap.size, 0, none⟩ 1 1 [.string ⟨#[99, 111, 117, 110, 116, 101, 114, 115, 105, 110, 107]⟩] rfl rfl (cell_str rfl) one_str (by unfold maxLen; omega) (by omega) (by have := hbx.out.sz; simp; omega) ?_; intro v1 w6 hown6 hgrow6 _)
                  have HX6 := hid (hbx.out.grownZ hown.out hgrow6)
                  have HO6 : Hid (OwnZ w6 (w.heap.size + 2) v1 (fltL n x 6)) := by rw [HE.out]; exact OwnZ.app (by rw [← HNN.out]; exact hown6)
                  clear hown6 hgrow6
                  go_wp2_with fail
                  go_meet
                  exact ⟨HO6, HX6⟩
                · have HE := hid (fltL_no (show fltB n x 5 = false from HF.out))
                  have HO6 : Hid (OwnZ wc (w.heap.size + 2) u5 (fltL n x 6)) := by rw [HE.out]; exact hown.out
                  go_wp2_with fail
                  go_meet
                  exact ⟨HO6, hbx⟩
              case rest =>
                obtain ⟨hown, hbx⟩ := hcut
                clear HF HC
                have HB9 := hid hbx.out.low
                go_wp2_with fail
                refine bodyPost_ret (v := u5) (by simp [results, Try.results43, go_sem]) rfl ?_
                exact ⟨_, rfl, hown.out.row, HB9.out⟩
end Go.Proofs.Ytjfakhfkbnnbcaa
