/- Texts of this seat, one behind the other. -/
import Derived.Test.YtihbjimnjhfpeaaGreatR41
import Derived.Test.YtihbjimnjhfpeaaGreatR22
/- Cook: contract. -/
namespace Go.Proofs.YtihbjimnjhfpeaaGreat
open Go.RowKit Go.Lib

def cookB (t n cold cooling : Int) : Bool := okL [t, cold] && ticksB [n, cooling]
def cookL (t n cold cooling : Int) : List Int := if cookB t n cold cooling = true then List.replicate n.toNat t ++ List.replicate cooling.toNat cold else []
def CookP (t n cold cooling : Int) (w : World) (e : Ending) (w' : World) : Prop :=
  ∃ v, e = .returned (.tuple #[v, .int .i64 (if cookB t n cold cooling = true then 0 else 7)]) ∧ RowI w' v (cookL t n cold cooling) ∧ Below w.heap.size w w'
theorem ticksB_two {n m : Int} : ticksB [n, m] = true ↔ 0 ≤ n ∧ 0 ≤ m ∧ n + m ≤ 2000 := by
  simp [ticksB, tick1]
  omega
set_option maxRecDepth 20000 in
set_option maxHeartbeats 4000000 in
theorem cook_any (t n cold cooling : Int) (w : World) : Calls Tryz.prog 32 #[.int .i64 t, .int .i64 n, .int .i64 cold, .int .i64 cooling] w (CookP t n cold cooling w) := by
  have HT := hid (fun (W : World) (b : Nat) (h : W.heap.size = b) => ptemps_any (W.alloc (.cells #[.int .i64 t, .int .i64 cold] 3)) _ [t, cold] (two_row t cold 3 h))
  have HK := hid (fun (W : World) (b : Nat) (h : W.heap.size = b) => ticks_any (W.alloc (.cells #[.int .i64 n, .int .i64 cooling] 3)) _ [n, cooling] (two_row n cooling 3 h) (by simp))
  have HTW := hid (ticksB_two (n := n) (m := cooling))
  unfold CookP cookL
  cases h1 : okL [t, cold]
  · have hE : cookB t n cold cooling = false := by unfold cookB; rw [h1]; rfl
    have HEE := hid hE
    rw [hE]
    clear hE HTW
    rw [h1] at HT
    clear h1
    go_enter Tryz.func32, Tryz.ntmps32
    go_wp2_with (go_at_call 28; refine (HT.out _ _ (by simp)).mono ?_; rintro e w' ⟨rfl, rfl⟩)
    refine bodyPost_ret (v := .tuple #[.slice none 0 0, .int .i64 7]) (by simp [results, Tryz.results32, go_sem]) rfl ⟨_, rfl, .inl ⟨none, 0, rfl, rfl⟩, (Below.refl _ _).alloc (Nat.le_refl _) _⟩
  · cases h2 : ticksB [n, cooling]
    · have hE : cookB t n cold cooling = false := by unfold cookB; rw [h1, h2]; rfl
      rw [hE]
      clear hE HTW
      rw [h1] at HT
      rw [h2] at HK
      clear h1 h2
      go_enter Tryz.func32, Tryz.ntmps32
      go_wp2_with (first
        | (go_at_call 28; refine (HT.out _ _ (by simp)).mono ?_; rintro e w' ⟨rfl, rfl⟩)
        | (go_at_call 29; refine (HK.out _ _ (by simp)).mono ?_; rintro e w' ⟨rfl, rfl⟩))
      refine bodyPost_ret (v := .tuple #[.slice none 0 0, .int .i64 7]) (by simp [results, Tryz.results32, go_sem]) rfl ⟨_, rfl, .inl ⟨none, 0, rfl, rfl⟩, ((Below.refl _ _).alloc (Nat.le_refl _) _).alloc (by simp) _⟩
    · have hE : cookB t n cold cooling = true := by unfold cookB; rw [h1, h2]; rfl
      obtain ⟨b1, b2, b3⟩ := HTW.out.1 h2
      rw [hE, if_pos rfl, if_pos rfl]
      clear hE HTW
      rw [h1] at HT
      rw [h2] at HK
      clear h1 h2
      obtain ⟨n', rfl⟩ := Int.eq_ofNat_of_zero_le b1
      obtain ⟨m', rfl⟩ := Int.eq_ofNat_of_zero_le b2
      rw [Int.toNat_natCast, Int.toNat_natCast]
      have HB := hid (show n' ≤ 2000 ∧ m' ≤ 2000 ∧ n' + m' ≤ 2000 by omega)
      clear b1 b2 b3
      have HR1 := hid (fun (W : World) (b : Nat) (h : W.heap.size = b) => rep_any (W.alloc (.cells #[.int .i64 t] 3)) b 0 1 n' t (by rw [← h]; exact cell_alloc_new _ _ _ _ 0) (by have := HB.out; omega))
      have HR2 := hid (fun (W : World) (b : Nat) (h : W.heap.size = b) => rep_any (W.alloc (.cells #[.int .i64 cold] 3)) b 0 1 m' cold (by rw [← h]; exact cell_alloc_new _ _ _ _ 0) (by have := HB.out; omega))
      go_enter Tryz.func32, Tryz.ntmps32
      go_wp2_with (first
        | (go_at_call 28; refine (HT.out _ _ (by simp)).mono ?_; rintro e w' ⟨rfl, rfl⟩)
        | (go_at_call 29; refine (HK.out _ _ (by simp)).mono ?_; rintro e w' ⟨rfl, rfl⟩))
      refine (HR1.out _ _ (by simp)).mono ?_
      rintro e w2 ⟨g1, rfl, hg1, hk1, hb1⟩
      rw [List.length_replicate]
      have HK1 := hid hk1
      have HB1 : Hid (Below w.heap.size w w2) := bstep ((((Below.refl _ w).alloc (Nat.le_refl _) _).alloc (by simp) _).alloc (by simp; omega) _) (by simp; omega) hb1
      clear hk1 hb1 hg1
      go_wp2_with fail
      refine (HR2.out _ _ (by simp)).mono ?_
      rintro e w3 ⟨g2, rfl, hg2, hk2, hb2⟩
      rw [List.length_replicate]
      have HK2 := hid hk2
      have hb2' := (((Below.refl _ w2).alloc (Nat.le_refl _) (.cells #[.int .i64 cold] 3)).trans (hb2.mono (by simp)))
      have HK1 := hid ((hb2'.block _ (lt_of_block HK1.out)).trans HK1.out)
      have HB3 : Hid (Below w.heap.size w w3) := bstep HB1.out HB1.out.size hb2'
      clear hk2 hb2 hg2 hb2' HB1
      go_wp2_with fail
      have hrl : ∀ (k : Nat) (x : Int), (List.replicate k x).length = k := fun k x => List.length_replicate
      have hba := (Below.refl _ w3).alloc (Nat.le_refl _) (.cells #[.slice (some ⟨g1, 0, none⟩) n' n', .slice (some ⟨g2, 0, none⟩) m' m'] 28)
      have HR1' := hid (show RowI w3 (.slice (some ⟨g1, 0, none⟩) n' n') (List.replicate n' t) by have h := rowI_of_block (cap := n') HK1.out (by rw [hrl]; have := HB.out; omega); rwa [hrl] at h)
      have HR2' := hid (show RowI w3 (.slice (some ⟨g2, 0, none⟩) m' m') (List.replicate m' cold) by have h := rowI_of_block (cap := m') HK2.out (by rw [hrl]; have := HB.out; omega); rwa [hrl] at h)
      have HCC := hid (fun (b : Nat) (h : w3.heap.size = b) => concat2_any (W := w3.alloc (.cells #[.slice (some ⟨g1, 0, none⟩) n' n', .slice (some ⟨g2, 0, none⟩) m' m'] 28)) (b := b) ⟨by rw [← h]; exact cell_alloc_new _ _ _ _ 0, by rw [← h]; exact cell_alloc_new _ _ _ _ 1⟩ (HR1'.out.keep hba) (HR2'.out.keep hba) (by rw [List.length_append, hrl, hrl]; have := HB.out; omega))
      have HBA := hid hba
      clear hba hrl
      refine (HCC.out _ rfl).mono ?_
      rintro e w4 ⟨u, rfl, ho, hb4⟩
      have HRC := hid (NewI.rowI ho (by rw [List.length_append, List.length_replicate, List.length_replicate]; have := HB.out; omega))
      have HB4 := hid (bstep HB3.out HB3.out.size (HBA.out.trans (hb4.mono (by simp))))
      clear ho hb4
      go_wp2_with fail
      refine bodyPost_ret (v := .tuple #[u, .int .i64 0]) (by simp [results, Tryz.results32, go_sem]) rfl ⟨u, rfl, HRC.out, HB4.out⟩
end Go.Proofs.YtihbjimnjhfpeaaGreat

/- What Mended's walk wants besides. -/
namespace Go.Proofs.YtihbjimnjhfpeaaGreat
open Go.RowKit Go.Lib

theorem three_row {W : World} {n : Nat} (x y z : Int) (T : TypeId) (h : W.heap.size = n) : RowI (W.alloc (.cells #[.int .i64 x, .int .i64 y, .int .i64 z] T)) (.slice (some ⟨n, 0, none⟩) 3 3) [x, y, z] := by
  subst h
  refine .inr ⟨W.heap.size, 0, 3, rfl, by simp [maxLen], fun k hk => ?_⟩
  match k, hk with
  | 0, _ => exact cell_alloc_new _ _ _ _ 0
  | 1, _ => exact cell_alloc_new _ _ _ _ 1
  | 2, _ => exact cell_alloc_new _ _ _ _ 2
/-- The rate of meterDown, where the map stays as it is. -/
theorem rateOk_fix {g : Int → Nat} {lo tlo thi : Int} {n kb mb : Nat} {W1 : World} {ob : Obj} (hD : DnI g lo n kb mb W1) (_ : W1.heap[mb]? = some ob) (hq : ∀ t : Int, tlo ≤ t → t ≤ thi → lo ≤ t / 250 ∧ t / 250 < lo + n) (h1 : -50000 ≤ tlo) (h2 : thi ≤ 200000) (hg : ∀ q, g q ≤ 100000000000000000) :
    RateOk 113 #[.pointer (some ⟨kb, 0, none⟩)] (fun t => g (t / 250)) tlo thi mb W1.heap.size (fun W => (DnI g lo n kb mb W ∧ W1.heap.size ≤ W.heap.size) ∧ W.heap[mb]? = some ob) where
  enter := fun args W => enter_at Tryz.func113 (by kernel_rfl) (by kernel_rfl) args W
  call := fun W t hI a b => by
    obtain ⟨⟨hd, hs⟩, hm⟩ := hI
    obtain ⟨q1, q2⟩ := hq t a b
    refine (rate1_any g lo t n kb mb W (cell_of_row _ _ 0 _ _ _ hd.box) hd.map q1 q2 (by omega) (by omega)).mono ?_
    rintro e w' ⟨rfl, m, rfl⟩
    exact ⟨rfl, ⟨⟨⟨hd.box, hd.map⟩, hs⟩, hm⟩, ⟨rfl, rfl, rfl, Nat.le_refl _, fun _ _ _ => rfl⟩⟩
  keep := fun W W' row hI hg hr => by
    obtain ⟨⟨hd, hs⟩, hm⟩ := hI
    have hk := lt_of_block hD.box
    have hmm := hD.map.lt
    exact ⟨⟨hd.kept hg (fun e => by have := hr _ e.symm; omega) (fun e => by have := hr _ e.symm; omega), Nat.le_trans hs hg.size⟩, (hg.block _ (lt_of_block hm) (fun e => by have := hr _ e.symm; omega)).trans hm⟩
  isM := fun W hI => hI.1.1.map.isMap
  lt := hD.map.lt
  le := fun W hI => hI.1.2
  fle := fun t => hg _
/-- What Mended's last region reads. -/
def RawMe (c : Cn) (need : Int) (F : Nat) (lb : Array Value) (bath cold : Int) (most cooling : Nat) (m n : Nat) (X : World → Prop) (W : World) : Prop := (W.cell? ⟨m, 0, none⟩ = some (.int .i64 (c.R : Int)) ∧ W.cell? ⟨m, 1, none⟩ = some (.int .i64 (c.L : Int)) ∧ W.cell? ⟨m, 2, none⟩ = some (.int .i64 c.A) ∧ W.cell? ⟨m, 3, none⟩ = some (.int .i64 c.B) ∧ W.cell? ⟨m, 4, none⟩ = some (.int .i64 c.K) ∧ W.cell? ⟨m, 5, none⟩ = some (.int .i64 c.A2) ∧ W.cell? ⟨m, 6, none⟩ = some (.int .i64 c.B2) ∧ W.cell? ⟨m, 7, none⟩ = some (.int .i64 need) ∧ W.cell? ⟨m, 8, none⟩ = some (.func (.func F) #[] lb)) ∧ (W.cell? ⟨n, 0, none⟩ = some (.int .i64 (c.R : Int)) ∧ W.cell? ⟨n, 1, none⟩ = some (.int .i64 (c.L : Int)) ∧ W.cell? ⟨n, 2, none⟩ = some (.int .i64 c.A) ∧ W.cell? ⟨n, 3, none⟩ = some (.int .i64 c.B) ∧ W.cell? ⟨n, 4, none⟩ = some (.int .i64 c.K) ∧ W.cell? ⟨n, 5, none⟩ = some (.int .i64 c.A2) ∧ W.cell? ⟨n, 6, none⟩ = some (.int .i64 c.B2) ∧ W.cell? ⟨n, 7, none⟩ = some (.int .i64 need) ∧ W.cell? ⟨n, 8, none⟩ = some (.func (.func F) #[] lb) ∧ W.cell? ⟨n, 9, none⟩ = some (.int .i64 bath) ∧ W.cell? ⟨n, 10, none⟩ = some (.int .i64 (most : Nat)) ∧ W.cell? ⟨n, 11, none⟩ = some (.int .i64 cold) ∧ W.cell? ⟨n, 12, none⟩ = some (.int .i64 (cooling : Nat))) ∧ W.heap[m]? = some (.cells #[.int .i64 (c.R : Int), .int .i64 (c.L : Int), .int .i64 c.A, .int .i64 c.B, .int .i64 c.K, .int .i64 c.A2, .int .i64 c.B2, .int .i64 need, .func (.func F) #[] lb] 80 (0, 0)) ∧ W.heap[n]? = some (.cells #[.int .i64 (c.R : Int), .int .i64 (c.L : Int), .int .i64 c.A, .int .i64 c.B, .int .i64 c.K, .int .i64 c.A2, .int .i64 c.B2, .int .i64 need, .func (.func F) #[] lb, .int .i64 bath, .int .i64 (most : Nat), .int .i64 cold, .int .i64 (cooling : Nat)] 127 (0, 0)) ∧ X W
theorem rawMe {c : Cn} {need : Int} {F : Nat} {lb : Array Value} {bath cold : Int} {most cooling : Nat} {m n : Nat} {X : World → Prop} {W : World} (h1 : W.heap[m]? = some (.cells #[.int .i64 (c.R : Int), .int .i64 (c.L : Int), .int .i64 c.A, .int .i64 c.B, .int .i64 c.K, .int .i64 c.A2, .int .i64 c.B2, .int .i64 need, .func (.func F) #[] lb] 80 (0, 0))) (h2 : W.heap[n]? = some (.cells #[.int .i64 (c.R : Int), .int .i64 (c.L : Int), .int .i64 c.A, .int .i64 c.B, .int .i64 c.K, .int .i64 c.A2, .int .i64 c.B2, .int .i64 need, .func (.func F) #[] lb, .int .i64 bath, .int .i64 (most : Nat), .int .i64 cold, .int .i64 (cooling : Nat)] 127 (0, 0))) (hx : X W) : RawMe c need F lb bath cold most cooling m n X W :=
  ⟨⟨cell_of_row _ _ 0 _ _ _ h1, cell_of_row _ _ 1 _ _ _ h1, cell_of_row _ _ 2 _ _ _ h1, cell_of_row _ _ 3 _ _ _ h1, cell_of_row _ _ 4 _ _ _ h1, cell_of_row _ _ 5 _ _ _ h1, cell_of_row _ _ 6 _ _ _ h1, cell_of_row _ _ 7 _ _ _ h1, cell_of_row _ _ 8 _ _ _ h1⟩, ⟨cell_of_row _ _ 0 _ _ _ h2, cell_of_row _ _ 1 _ _ _ h2, cell_of_row _ _ 2 _ _ _ h2, cell_of_row _ _ 3 _ _ _ h2, cell_of_row _ _ 4 _ _ _ h2, cell_of_row _ _ 5 _ _ _ h2, cell_of_row _ _ 6 _ _ _ h2, cell_of_row _ _ 7 _ _ _ h2, cell_of_row _ _ 8 _ _ _ h2, cell_of_row _ _ 9 _ _ _ h2, cell_of_row _ _ 10 _ _ _ h2, cell_of_row _ _ 11 _ _ _ h2, cell_of_row _ _ 12 _ _ _ h2⟩, h1, h2, hx⟩
end Go.Proofs.YtihbjimnjhfpeaaGreat
