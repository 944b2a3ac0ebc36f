/- Texts of this seat, one behind the other. -/
import Derived.Test.YtihbjimnjhfpeaaGreatR23
import Derived.Test.YtihbjimnjhfpeaaGreatR01
import Derived.Laws.OwnMore
import Derived.OwnWalk
import Derived.BigQuiet
import Derived.Test.YtihbjimnjhfpeaaGreatR04
import Derived.Shelf.Abstract
import Derived.Shelf.RegionOpen
import Derived.WalkKit
import Derived.OwnWalkIn
import Derived.TacticsInMore
import Derived.LoopNIn
import Derived.LoopIn
/- Walks of quarterAbove and of meterUp's rates: contracts. -/
namespace Go.Proofs.YtihbjimnjhfpeaaGreat
open Go.RowKit Go.Lib Go.Maps

def qk (j : Nat) : Lit := .int .i64 ((j : Int) - 200)
theorem qk_ne {i j : Nat} (h : i ≠ j) : qk i ≠ qk j := by
  intro e; unfold qk at e; injection e with _ e; omega
/-- How many quarters a map knows. -/
def cntU (D : DataW Unit) : Nat := (List.range 1001).countP fun j => Maps.has D (qk j)
theorem cntU_le (D : DataW Unit) : cntU D ≤ 1001 := by
  have := List.countP_le_length (p := fun j => Maps.has D (qk j)) (l := List.range 1001)
  rwa [List.length_range] at this
theorem count_one {p p' : Nat → Bool} {j0 : Nat} (h0 : p j0 = false) (h1 : p' j0 = true) (h2 : ∀ j, j ≠ j0 → p' j = p j) : ∀ n, (List.range n).countP p' = (List.range n).countP p + (if j0 < n then 1 else 0)
  | 0 => by simp
  | n + 1 => by
    rw [List.range_succ, List.countP_append, List.countP_append, count_one h0 h1 h2 n]
    by_cases e : n = j0
    · subst e
      simp [h0, h1]
    · have := h2 n e
      simp only [List.countP_cons, List.countP_nil, this]
      have h3 : (if j0 < n + 1 then 1 else 0) = (if j0 < n then (1 : Nat) else 0) := by split <;> split <;> omega
      rw [h3]
      omega
theorem cntU_put {D : DataW Unit} (hD : IsMap D) {j : Nat} (hj : j < 1001) (h : Maps.has D (qk j) = false) (x : DataW Unit) : cntU (D.put (qk j) x) = cntU D + 1 := by
  unfold cntU
  rw [count_one (p := fun i => Maps.has D (qk i)) (p' := fun i => Maps.has (D.put (qk j) x) (qk i)) (j0 := j) h (has_put_same hD (by constructor) x) (fun i hi => has_put_other (qk_ne hi) x) 1001, if_pos hj]
/-- A map of rates that have been asked for. -/
def GoodU (f : Int → Nat) (D : DataW Unit) : Prop := IsMap D ∧ ∀ j : Nat, j < 1001 → Maps.has D (qk j) = true → D.atKey (qk j) (.lit (.int .i64 0)) = .lit (.int .i64 (f ((j : Int) - 200) : Nat))
theorem goodU_empty (f : Int → Nat) : GoodU f (.map []) := ⟨isMap_empty, fun j _ h => by simp [Maps.has] at h⟩
theorem GoodU.put {f : Int → Nat} {D : DataW Unit} (h : GoodU f D) (j : Nat) : GoodU f (D.put (qk j) (.lit (.int .i64 (f ((j : Int) - 200) : Nat)))) := by
  refine ⟨h.1.put _ _, fun i hi hh => ?_⟩
  by_cases e : i = j
  · subst e
    exact atKey_put_same h.1 (by constructor) _ _
  · rw [atKey_put_other (qk_ne e)]
    rw [has_put_other (qk_ne e)] at hh
    exact h.2 i hi hh
def MapU (f : Int → Nat) (w : World) (b : Nat) : Prop := ∃ D : DataW Unit, w.ownsMap Tryz.prog 3 (plainElem Tryz.prog 3) b (cntU D) D ∧ GoodU f D
theorem MapU.kept {f : Int → Nat} {b : Nat} {w w' : World} {row : Option Nat} (h : MapU f w b) (hg : w.grownBy w' row) (hne : some b ≠ row) : MapU f w' b := by
  obtain ⟨D, h1, h2⟩ := h
  exact ⟨D, h1.kept hg hne, h2⟩
theorem MapU.lt {f : Int → Nat} {b : Nat} {w : World} (h : MapU f w b) : b < w.heap.size := by
  obtain ⟨D, h1, _⟩ := h
  exact h1.lt
theorem MapU.isMap {f : Int → Nat} {b : Nat} {w : World} (h : MapU f w b) : ∃ o : Obj, w.heap[b]? = some o ∧ o.isCells = false := by
  obtain ⟨D, ⟨es, clock, h1, _⟩, _⟩ := h
  exact ⟨_, h1, rfl⟩
theorem mapU_made (f : Int → Nat) (w : World) : MapU f (w.alloc (.map #[] 0)) w.heap.size :=
  ⟨.map [], (World.ownsMap_made _ _ _ _).mono (Nat.zero_le _), goodU_empty f⟩
/-- What a meter's rates up stand on. -/
structure UpI (s : ByteArray) (r : Int) (Z : Nat) (d g : Int) (kb nb mb : Nat) (W : World) : Prop where
  box : W.heap[kb]? = some (.cells #[.map (some mb)] 121 (0, 0))
  kil : W.heap[nb]? = some (.cells #[.string s, .int .i64 r, .int .i64 (Z : Int), .int .i64 d, .int .i64 g] 25 (0, 0))
  map : MapU (Lt.Pm.rateU r Z) W mb
theorem UpI.kept {s : ByteArray} {r d g : Int} {Z kb nb mb : Nat} {W W' : World} {row : Option Nat} (h : UpI s r Z d g kb nb mb W) (hg : W.grownBy W' row) (h1 : some kb ≠ row) (h2 : some nb ≠ row) (h3 : some mb ≠ row) : UpI s r Z d g kb nb mb W' :=
  ⟨(hg.block _ (lt_of_block h.box) h1).trans h.box, (hg.block _ (lt_of_block h.kil) h2).trans h.kil, h.map.kept hg h3⟩
theorem qUp_neg (t : Int) : -(-t / 250) = Lt.qUp t := by unfold Lt.qUp; split <;> omega
set_option maxHeartbeats 1000000 in
theorem qab_any (t : Int) (w : World) (h1 : -50000 ≤ t) (h2 : t ≤ 200000) : Calls Tryz.prog 68 #[.int .i64 t] w fun e w' => e = .returned (.int .i64 (Lt.qUp t)) ∧ w = w' := by
  have HQ := hid (qUp_neg t)
  have HL := hid (fun W => Lt.lQuarter_any (-t) W (by omega) (by omega))
  have hb1 : -200 ≤ -(-t / 250) ∧ -(-t / 250) ≤ 800 := by omega
  obtain ⟨x, hx⟩ : ∃ x, x = -t / 250 := ⟨_, rfl⟩
  rw [← hx] at HQ HL hb1
  clear hx
  obtain ⟨x1, x2⟩ := hb1
  go_enter Tryz.func68, Tryz.ntmps68
  go_wp2_with fail
  refine (HL.out _).mono ?_
  rintro e w1 ⟨rfl, rfl⟩
  go_wp2_with fail
  go_ret
  exact ⟨ret_int HQ.out, rfl⟩
set_option maxRecDepth 20000 in
set_option maxHeartbeats 4000000 in
theorem up1_any (s : ByteArray) (r d g t : Int) (Z kb nb mb : Nat) (w : World) (hs : s.size ≤ maxLen) (hv : Lt.validB s.data.toList r Z d g = true) (h1 : -50000 ≤ t) (h2 : t ≤ 200000) (hI : UpI s r Z d g kb nb mb w) :
    Calls Tryz.prog 67 #[.int .i64 t, .pointer (some ⟨kb, 0, none⟩), .pointer (some ⟨nb, 0, none⟩)] w fun e w' => e = .returned (.int .i64 (Lt.up r Z t : Nat)) ∧ MapU (Lt.Pm.rateU r Z) w' mb ∧ w.grownBy w' (some mb) := by
  obtain ⟨D, hown, hgood⟩ := hI.map
  have hc := cntU_le D
  have hz1 := (Lt.validB_iff.1 hv).2.2.1.1
  have HQA := hid (fun W => qab_any t W h1 h2)
  have hqb : -200 ≤ Lt.qUp t ∧ Lt.qUp t ≤ 800 := by unfold Lt.qUp; split <;> omega
  have hup : Lt.up r Z t = Lt.Pm.rateU r Z (Lt.qUp t) := rfl
  rw [hup]
  generalize Lt.qUp t = qq at *
  obtain ⟨j, hj⟩ := Int.eq_ofNat_of_zero_le (show 0 ≤ qq + 200 by omega)
  obtain rfl : qq = (j : Int) - 200 := by omega
  have hj1 : j < 1001 := by omega
  have HJ := hid hj1
  have HG := hid hgood
  have HK := hid (Lt.key_int (t := (j : Int) - 200) (by omega) (by omega))
  have HRU := hid (fun W => Lt.lRateUp_any s r Z d g W hs ((j : Int) - 200))
  rw [hv, Lt.rateA_in _ _ (show (decide (-1000 ≤ (j : Int) - 200) && decide ((j : Int) - 200 ≤ 2000)) = true by simp; omega)] at HRU
  generalize Lt.chkT true ((j : Int) - 200) = ck at *
  have hule : Lt.Pm.rateU r Z ((j : Int) - 200) ≤ 10000000000000001 := by
    have := Lt.Pm.rateD_le r Z ((j : Int) - 200) hz1
    rw [Lt.Pm.rateU_eq]; split <;> omega
  have hgp := hid (hgood.put j)
  have hfv := hid (hgood.2 j hj1)
  have HCP := hid (fun h x => cntU_put hgood.1 hj1 h x)
  obtain ⟨x, hx⟩ : ∃ x, x = Lt.Pm.rateU r Z ((j : Int) - 200) := ⟨_, rfl⟩
  rw [← hx] at HRU hule hgp hfv ⊢
  have hkb := lt_of_block hI.box
  have hnb := lt_of_block hI.kil
  have hmb := hown.lt
  have b0 := cell_of_row _ _ 0 _ _ _ hI.box
  have k0 := cell_of_row _ _ 0 _ _ _ hI.kil
  have k1 := cell_of_row _ _ 1 _ _ _ hI.kil
  have k2 := cell_of_row _ _ 2 _ _ _ hI.kil
  have k3 := cell_of_row _ _ 3 _ _ _ hI.kil
  have k4 := cell_of_row _ _ 4 _ _ _ hI.kil
  simp only [List.getElem?_toArray, List.getElem?_cons_zero, List.getElem?_cons_succ] at b0 k0 k1 k2 k3 k4
  have HOWN := hid hown
  clear hx hown hgood hI hj hqb h1 h2 hv hs hup hz1
  cases hh : Maps.has D (qk j)
  · have HH := hid (HCP.out hh)
    have hh' : Maps.has D (.int .i64 ((j : Int) - 200)) = false := hh
    go_enter Tryz.func67, Tryz.ntmps67
    go_wp2_with fail
    refine (HQA.out _).mono ?_
    rintro e w1 ⟨rfl, rfl⟩
    go_wp2_with (at_lookup; refine wpList_lookup_own_ok_int _ rfl _ _ 121 rfl 3 3 .i64 Lt.law_int Tryz.underlying121 Tryz.underlying3 (Lt.zero_int _) mb (cntU D) D rfl HOWN.out _ _ rfl HK.out ?_; intro c hat hwc; clear hat hwc)
    refine (HRU.out _).mono ?_
    rintro e w2 ⟨rfl, hb⟩
    have b2 := keep_cell hb b0
    have HB := hid hb
    have HO2 := hid (Lt.omap_below HOWN.out hb)
    clear hb b0 k0 k1 k2 k3 k4
    go_wp2_with (at_mapUpdate; refine wpList_mapUpdate_own _ rfl _ _ _ 121 rfl 3 3 Lt.law_int Tryz.underlying121 _ mb (cntU D) D rfl HO2.out (by unfold maxLen; omega) _ _ _ rfl rfl HK.out _ [] (plainElem_int Tryz.underlying3 (WalkArith.wf_i64 (by omega))) ?_; intro w3 hown3 hgrow3)
    go_ret
    refine ⟨rfl, ⟨_, ?_, hgp.out⟩, Lt.gtrans (Lt.gbelow HB.out) hgrow3⟩
    rw [HH.out]
    exact hown3
  · have hh' : Maps.has D (.int .i64 ((j : Int) - 200)) = true := hh
    have hat0 := hid (hfv.out hh)
    go_enter Tryz.func67, Tryz.ntmps67
    go_wp2_with fail
    refine (HQA.out _).mono ?_
    rintro e w1 ⟨rfl, rfl⟩
    go_wp2_with (at_lookup; refine wpList_lookup_own_ok_int _ rfl _ _ 121 rfl 3 3 .i64 Lt.law_int Tryz.underlying121 Tryz.underlying3 (Lt.zero_int _) mb (cntU D) D rfl HOWN.out _ _ rfl HK.out ?_; intro c hat hwc; have hat1 := hid hat; clear hat hwc)
    go_ret
    refine ⟨ret_int ?_, ⟨D, HOWN.out, HG.out⟩, World.grownBy.refl _ _⟩
    have h9 : D.atKey (qk j) (.lit (.int .i64 0)) = _ := hat1.out
    have := hat0.out.symm.trans h9
    simpa using this.symm
end Go.Proofs.YtihbjimnjhfpeaaGreat

/- Walks of meterUp, Spoiled: contracts. -/
namespace Go.Proofs.YtihbjimnjhfpeaaGreat
open Go.RowKit Go.Lib Go.Maps

theorem rateOk_up {s : ByteArray} {r d g : Int} {Z kb nb mb : Nat} {W1 : World} (hs : s.size ≤ maxLen) (hv : Lt.validB s.data.toList r Z d g = true) (hI : UpI s r Z d g kb nb mb W1) :
    RateOk 67 #[.pointer (some ⟨kb, 0, none⟩), .pointer (some ⟨nb, 0, none⟩)] (Lt.up r Z) (-50000) 200000 mb W1.heap.size (fun W => UpI s r Z d g kb nb mb W ∧ W1.heap.size ≤ W.heap.size) where
  enter := fun args W => enter_at Tryz.func67 (by kernel_rfl) (by kernel_rfl) args W
  call := fun W t hW a b => by
    obtain ⟨hU, hz⟩ := hW
    refine (up1_any s r d g t Z kb nb mb W hs hv a b hU).mono ?_
    rintro e w' ⟨rfl, hm, hg⟩
    exact ⟨rfl, ⟨⟨(hg.block _ (lt_of_block hU.box) (blk_noM hU.map.isMap hU.box)).trans hU.box, (hg.block _ (lt_of_block hU.kil) (blk_noM hU.map.isMap hU.kil)).trans hU.kil, hm⟩, Nat.le_trans hz hg.size⟩, hg⟩
  keep := fun W W' row hW hg hr => by
    have h1 := lt_of_block hI.box
    have h2 := lt_of_block hI.kil
    have h3 := hI.map.lt
    exact ⟨hW.1.kept hg (fun e => by have := hr _ e.symm; omega) (fun e => by have := hr _ e.symm; omega) (fun e => by have := hr _ e.symm; omega), Nat.le_trans hW.2 hg.size⟩
  isM := fun W hW => hW.1.map.isMap
  lt := hI.map.lt
  le := fun W hW => hW.2
  fle := fun t => by have := Lt.up_le r Z t (Lt.validB_iff.1 hv).2.2.1.1; omega

theorem run_makeMap_none (W : World) : Sem.run Tryz.prog (Instr.makeMap 121 none) W = .ok (.map (some W.heap.size)) (W.alloc (.map #[] 0)) := by kernel_rfl
theorem infoMt : (Tryz.prog.info? 80).map (·.size) = some 9 := by kernel_rfl
/-- What meterUp works on. -/
structure UpL (c : Cn) (s : ByteArray) (r : Int) (Z : Nat) (d g : Int) (M : Nat) (w W : World) : Prop where
  boxes : B3 w W 23 25 80 #[.int .i64 (c.R : Int), .int .i64 (c.L : Int), .int .i64 c.A, .int .i64 c.B, .int .i64 c.K, .int .i64 c.A2, .int .i64 c.B2] #[.string s, .int .i64 r, .int .i64 (Z : Int), .int .i64 d, .int .i64 g] #[.int .i64 0, .int .i64 0, .int .i64 0, .int .i64 0, .int .i64 0, .int .i64 0, .int .i64 0, .int .i64 0, .nilFunc]
  box : W.heap[M + 1]? = some (.cells #[.map (some M)] 121 (0, 0))
  map : MapU (Lt.Pm.rateU r Z) W M
  lt : w.heap.size + 1 + 1 < M
theorem UpL.keep {c : Cn} {s : ByteArray} {r d g : Int} {Z M : Nat} {w W W' : World} (h : UpL c s r Z d g M w W) (hb : Below W.heap.size W W') : UpL c s r Z d g M w W' :=
  ⟨h.boxes.keep hb, (hb.block _ (lt_of_block h.box)).trans h.box, h.map.kept (row := none) (Lt.gbelow hb) (by simp), h.lt⟩
theorem upL_start {c : Cn} {s : ByteArray} {r d g : Int} {Z M : Nat} {w W : World} (h : B3 w W 23 25 80 #[.int .i64 (c.R : Int), .int .i64 (c.L : Int), .int .i64 c.A, .int .i64 c.B, .int .i64 c.K, .int .i64 c.A2, .int .i64 c.B2] #[.string s, .int .i64 r, .int .i64 (Z : Int), .int .i64 d, .int .i64 g] #[.int .i64 0, .int .i64 0, .int .i64 0, .int .i64 0, .int .i64 0, .int .i64 0, .int .i64 0, .int .i64 0, .nilFunc]) (hM : W.heap.size = M) :
    UpL c s r Z d g M w ((W.alloc (.map #[] 0)).alloc (.cells #[.map (some M)] 121)) := by
  subst hM
  have hb4 := ((Below.refl _ W).alloc (Nat.le_refl _) (.map #[] 0)).alloc (by simp) (.cells #[.map (some W.heap.size)] 121)
  refine ⟨h.keep hb4, ?_, (mapU_made _ W).kept (row := none) (World.grownBy_alloc _ _ none) (by simp), h.lt⟩
  have := heap_alloc_new (W.alloc (.map #[] 0)) (.cells #[.map (some W.heap.size)] 121)
  rwa [World.size_alloc] at this
theorem upL_end {c : Cn} {s : ByteArray} {r d g : Int} {Z M : Nat} {w W W9 : World} {cs : Array Value} (h : UpL c s r Z d g M w W) (hW : W.setRow (w.heap.size + 1 + 1) cs = W9) :
    W9.heap[w.heap.size + 1 + 1]? = some (.cells cs 80 (0, 0)) ∧ UpI s r Z d g (M + 1) (w.heap.size + 1) M W9 ∧ Below w.heap.size w W9 := by
  subst hW
  have ho : ∀ g, g ≠ w.heap.size + 1 + 1 → (W.setRow (w.heap.size + 1 + 1) cs).heap[g]? = W.heap[g]? := fun g hg => setRow_other _ _ _ _ hg
  have hg : W.grownBy (W.setRow (w.heap.size + 1 + 1) cs) (some (w.heap.size + 1 + 1)) := ⟨rfl, rfl, rfl, by simp, fun k _ hk => ho k (fun e => hk (by rw [e]))⟩
  have hlt := h.lt
  exact ⟨setRow_heap _ _ _ _ _ _ h.boxes.three, ⟨(ho _ (by omega)).trans h.box, (ho _ (by omega)).trans h.boxes.two, h.map.kept hg (fun e => by have : M = w.heap.size + 1 + 1 := Option.some.inj e; omega)⟩, h.boxes.low.trans ⟨rfl, rfl, rfl, by simp, fun k hk => ho k (by omega)⟩⟩
def RawUp (c : Cn) (s : ByteArray) (r : Int) (Z : Nat) (d g : Int) (M : Nat) (w W : World) : Prop :=
  (W.cell? ⟨w.heap.size, 0, none⟩ = some (.int .i64 (c.R : Int)) ∧ W.cell? ⟨w.heap.size, 1, none⟩ = some (.int .i64 (c.L : Int)) ∧ W.cell? ⟨w.heap.size, 2, none⟩ = some (.int .i64 c.A) ∧ W.cell? ⟨w.heap.size, 3, none⟩ = some (.int .i64 c.B) ∧ W.cell? ⟨w.heap.size, 4, none⟩ = some (.int .i64 c.K) ∧ W.cell? ⟨w.heap.size, 5, none⟩ = some (.int .i64 c.A2) ∧ W.cell? ⟨w.heap.size, 6, none⟩ = some (.int .i64 c.B2)) ∧
  (W.cell? ⟨w.heap.size + 1, 0, none⟩ = some (.string s) ∧ W.cell? ⟨w.heap.size + 1, 1, none⟩ = some (.int .i64 r) ∧ W.cell? ⟨w.heap.size + 1, 2, none⟩ = some (.int .i64 (Z : Int)) ∧ W.cell? ⟨w.heap.size + 1, 3, none⟩ = some (.int .i64 d) ∧ W.cell? ⟨w.heap.size + 1, 4, none⟩ = some (.int .i64 g)) ∧ UpL c s r Z d g M w W
theorem rawUp {c : Cn} {s : ByteArray} {r d g : Int} {Z M : Nat} {w W : World} (h : UpL c s r Z d g M w W) : RawUp c s r Z d g M w W :=
  ⟨⟨cell_of_row _ _ 0 _ _ _ h.boxes.one, cell_of_row _ _ 1 _ _ _ h.boxes.one, cell_of_row _ _ 2 _ _ _ h.boxes.one, cell_of_row _ _ 3 _ _ _ h.boxes.one, cell_of_row _ _ 4 _ _ _ h.boxes.one, cell_of_row _ _ 5 _ _ _ h.boxes.one, cell_of_row _ _ 6 _ _ _ h.boxes.one⟩,
   ⟨cell_of_row _ _ 0 _ _ _ h.boxes.two, cell_of_row _ _ 1 _ _ _ h.boxes.two, cell_of_row _ _ 2 _ _ _ h.boxes.two, cell_of_row _ _ 3 _ _ _ h.boxes.two, cell_of_row _ _ 4 _ _ _ h.boxes.two⟩, h⟩
/-- What meterUp hands back. -/
def UpP (c : Cn) (s : ByteArray) (r : Int) (Z : Nat) (d g : Int) (w : World) (e : Ending) (w' : World) : Prop :=
  ∃ kb nb mb : Nat, e = .returned (.agg #[.int .i64 (c.R : Int), .int .i64 (c.L : Int), .int .i64 c.A, .int .i64 c.B, .int .i64 c.K, .int .i64 c.A2, .int .i64 c.B2, .int .i64 (g * (d * 1000000)), .func (.func 67) #[] #[.pointer (some ⟨kb, 0, none⟩), .pointer (some ⟨nb, 0, none⟩)]]) ∧ UpI s r Z d g kb nb mb w' ∧ w.heap.size ≤ mb ∧ Below w.heap.size w w'
set_option maxRecDepth 100000 in
set_option maxHeartbeats 4000000 in
theorem meterUp_any (c : Cn) (s : ByteArray) (r d g : Int) (Z : Nat) (w : World) (hs : s.size ≤ maxLen) (hv : Lt.validB s.data.toList r Z d g = true) :
    Calls Tryz.prog 30 #[.agg #[.int .i64 (c.R : Int), .int .i64 (c.L : Int), .int .i64 c.A, .int .i64 c.B, .int .i64 c.K, .int .i64 c.A2, .int .i64 c.B2], .agg #[.string s, .int .i64 r, .int .i64 (Z : Int), .int .i64 d, .int .i64 g]] w (UpP c s r Z d g w) := by
  have HND := hid (fun W => Lt.needs_yes s r Z d g W hs hv)
  have HS := hid (b3_start (w := w) (T1 := 23) (T2 := 25) (T3 := 80) (A := #[.int .i64 (c.R : Int), .int .i64 (c.L : Int), .int .i64 c.A, .int .i64 c.B, .int .i64 c.K, .int .i64 c.A2, .int .i64 c.B2]) (B := #[.string s, .int .i64 r, .int .i64 (Z : Int), .int .i64 d, .int .i64 g]) (R := #[.int .i64 0, .int .i64 0, .int .i64 0, .int .i64 0, .int .i64 0, .int .i64 0, .int .i64 0, .int .i64 0, .nilFunc]))
  have hmk := run_makeMap_none
  clear hs hv
  go_enter Tryz.func30, Tryz.ntmps30
  go_wp2_with fail
  have HL0 : Hid (UpL c s r Z d g (w.heap.size + 1 + 1 + 1) w _) := hid (upL_start HS.out (by simp))
  generalize hW : (((((w.alloc (.cells #[.int .i64 (c.R : Int), .int .i64 (c.L : Int), .int .i64 c.A, .int .i64 c.B, .int .i64 c.K, .int .i64 c.A2, .int .i64 c.B2] 23)).alloc (.cells #[.string s, .int .i64 r, .int .i64 (Z : Int), .int .i64 d, .int .i64 g] 25)).alloc (.cells #[.int .i64 0, .int .i64 0, .int .i64 0, .int .i64 0, .int .i64 0, .int .i64 0, .int .i64 0, .int .i64 0, .nilFunc] 80)).alloc (.map #[] 0)).alloc (.cells #[.map (some (w.heap.size + 1 + 1 + 1))] 121)) = W5 at *
  clear hW HS hmk
  generalize hM : w.heap.size + 1 + 1 + 1 = M at *
  refine wp_region_sink (S := RawUp c s r Z d g M w) 5 (by kernel_rfl) (by kernel_rfl) (by kernel_rfl) (by kernel_rfl) (rawUp (HL0.out.keep (Below.refl _ W5).drew)) (fun hS0 => ?_)
  refine wpAnyH_take (i := 0) (v := ?_) rfl (by kernel_rfl) (by kernel_rfl) (by kernel_rfl) (fun _ _ _ h => h) (Or.inl ⟨by rfl, ?_⟩) hS0 ?_
  rotate_left
  · intro w' hSw
    obtain ⟨⟨q0, q1, q2, q3, q4, q5, q6⟩, _⟩ := hSw
    go_simp
    try with_reducible rfl
  try simp only [Act.put]
  try simp only [List.setIfInBounds_toArray]
  try simp only [List.set_cons_zero, List.set_cons_succ]
  refine wpAnyH_take (i := 1) (v := ?_) rfl (by kernel_rfl) (by kernel_rfl) (by kernel_rfl) (fun _ _ _ h => h) (Or.inl ⟨by rfl, ?_⟩) hS0 ?_
  rotate_left
  · intro w' hSw
    obtain ⟨_, ⟨q0, q1, q2, q3, q4⟩, _⟩ := hSw
    go_simp
    try with_reducible rfl
  try simp only [Act.put]
  try simp only [List.setIfInBounds_toArray]
  try simp only [List.set_cons_zero, List.set_cons_succ]
  refine wpAnyH_take (i := 3) (v := ?_) rfl (by kernel_rfl) (by kernel_rfl) (by kernel_rfl) (fun _ _ _ h => h) (Or.inl ⟨by rfl, ?_⟩) hS0 ?_
  rotate_left
  · intro w' hSw
    obtain _ := hSw
    go_simp
    try with_reducible rfl
  try simp only [Act.put]
  try simp only [List.setIfInBounds_toArray]
  try simp only [List.set_cons_zero, List.set_cons_succ]
  (refine wpAnyH_ready (rs := [2]) (by kernel_rfl) (by simp) ?_)
  refine AllReadyH.cons rfl (fun K hK => ?_) AllReadyH.nil
  go_simp
  refine (HND.out _).mono ?_
  rintro e w3 ⟨rfl, hb⟩
  have HL3 := hid (hS0.2.2.keep hb)
  (refine hK.out _ _ (rawUp HL3.out) (fun hS1 => ?_); clear hK K)
  refine wpAnyH_take (i := 4) (v := ?_) rfl (by kernel_rfl) (by kernel_rfl) (by kernel_rfl) (fun _ _ _ h => h) (Or.inl ⟨by rfl, ?_⟩) hS1 ?_
  rotate_left
  · intro w0 hSw
    go_simp
    try with_reducible rfl
  simp only [List.getElem_toArray, List.getElem_cons_succ, List.getElem_cons_zero, Act.put, List.setIfInBounds_toArray, List.set_cons_zero, List.set_cons_succ]
  refine wpAnyH_done (by kernel_rfl) ?_ _
  clear hS0 hS1
  refine sink_last rfl (fun K1 hK1 => ?_)
  refine wp_store_row 80 _ _ rfl (w.heap.size + 1 + 1) _ rfl rfl 80 _ HL3.out.boxes.three infoMt rfl (by simp [Value.oneCell']) ?_
  generalize hW9 : World.setRow _ _ _ = W9
  have HE := hid (upL_end HL3.out hW9)
  clear hW9
  refine hK1.out _ _ ?_
  clear hK1 K1
  simp only [List.getElem_toArray, List.getElem_cons_succ, List.getElem_cons_zero, Act.put]
  go_wp2_with fail
  refine bodyPost_ret (results_cell_row Tryz.results30 _ _ (w.heap.size + 1 + 1) 80 _ (0, 0) _ rfl HE.out.1 Tryz.underlying80 rfl infoMt) rfl ?_
  exact ⟨M + 1, w.heap.size + 1, M, rfl, HE.out.2.1, by omega, HE.out.2.2⟩
end Go.Proofs.YtihbjimnjhfpeaaGreat

/- Rows of slices: own ones, turned round; walk of slices.Reverse: contract. -/
namespace Go.Proofs.YtihbjimnjhfpeaaGreat
open Go.RowKit

/-- A list with its first k and last k values exchanged. -/
def revK (xs : List Value) (k : Nat) : List Value := (List.range xs.length).map fun j => if j < k ∨ xs.length ≤ j + k then xs.getD (xs.length - 1 - j) undef else xs.getD j undef
/-- Slices of ints in a row of the call's own. -/
def OwnV (w : World) (base : Nat) (v : Value) (xs : List Value) : Prop := w.ownsRow base 28 1 v xs.length xs
theorem OwnV.keep {w w2 : World} {base : Nat} {v : Value} {xs : List Value} (h : OwnV w base v xs) (hb : Below w.heap.size w w2) : OwnV w2 base v xs := by
  refine ⟨h.1, ?_⟩
  rcases h.2 with h2 | ⟨g, cap, cur, h1, h2, h3, h4⟩
  · exact .inl h2
  · exact .inr ⟨g, cap, cur, h1, h2, (hb.block g (Array.getElem?_eq_some_iff.1 h3).1).trans h3, h4⟩
end Go.Proofs.YtihbjimnjhfpeaaGreat

/- The iterator of slices.Chunk over ints: contract. -/
namespace Go.Proofs.YtihbjimnjhfpeaaGreat
open Go.RowKit

/-- What the iterator yields in round i. -/
def ckE (b o R i : Nat) : Array Value := #[.slice (some ⟨b, o + i * R, none⟩) R R]
/-- What the iterator stands on. -/
structure ItC (sb nb b o P cap R n0 : Nat) (w : World) : Prop where
  sp : w.cell? ⟨sb, 0, none⟩ = some (.slice (some ⟨b, o, none⟩) P cap)
  np : w.cell? ⟨nb, 0, none⟩ = some (.int .i64 (R : Int))
  lt : sb < n0 ∧ nb < n0
  le : n0 ≤ w.heap.size
/-- What a round that goes on keeps. -/
def KpC (n0 : Nat) (W W' : World) : Prop := W.heap.size ≤ W'.heap.size ∧ ∀ j, j < n0 → W'.heap[j]? = W.heap[j]?
theorem ItC.past {sb nb b o P cap R n0 : Nat} {w w' : World} (H : ItC sb nb b o P cap R n0 w) (h : KpC n0 w w') : ItC sb nb b o P cap R n0 w' :=
  ⟨(World.cell?_of_block (a := ⟨sb, 0, none⟩) (h.2 _ H.lt.1)).trans H.sp, (World.cell?_of_block (a := ⟨nb, 0, none⟩) (h.2 _ H.lt.2)).trans H.np, H.lt, Nat.le_trans H.le h.1⟩
end Go.Proofs.YtihbjimnjhfpeaaGreat

/- Ranges' marks at a function's end, and where a grown row lies, at any seat. -/
namespace Go.Proofs.YtihbjimnjhfpeaaGreat
open Go.RowKit Go.Shelf
attribute [local go_sem] Oper.semAt_some


/-- Marks of ranges that are over, none older than B. -/
structure Marks0 (B : Nat) (Ds : List Nat) (W : World) : Prop where
  nd : Ds.Nodup
  at_ : ∀ D ∈ Ds, B ≤ D ∧ W.heap[D]? = some (.deferred (some []))
theorem Marks0.nil (B : Nat) (W : World) : Marks0 B [] W := ⟨List.nodup_nil, fun _ h => absurd h List.not_mem_nil⟩
theorem Marks0.keep {B : Nat} {Ds : List Nat} {W W' : World} (h : Marks0 B Ds W) (hk : ∀ D, B ≤ D → W.heap[D]? = some (.deferred (some [])) → W'.heap[D]? = some (.deferred (some []))) : Marks0 B Ds W' :=
  ⟨h.nd, fun D hD => ⟨(h.at_ D hD).1, hk D (h.at_ D hD).1 (h.at_ D hD).2⟩⟩
theorem Marks0.put {B D : Nat} {Ds : List Nat} {W : World} (h : Marks0 B Ds W) (hD : B ≤ D) (hn : ∀ d ∈ Ds, d < D) (hW : W.heap[D]? = some (.deferred (some []))) : Marks0 B (D :: Ds) W :=
  ⟨List.nodup_cons.2 ⟨fun hm => absurd (hn D hm) (Nat.lt_irrefl D), h.nd⟩, fun d hd => by
    rcases List.mem_cons.1 hd with rfl | hd
    · exact ⟨hD, hW⟩
    · exact h.at_ d hd⟩
def markOf (D : Nat) : Deferred := { target := .collected D, args := #[] }
theorem leaves_marks {F : Fence} {n B : Nat} {P : Program} {fn : Func} {tmps : Array Value} {R : Ending → World → Prop} : ∀ (Ds : List Nat) (W : World), Marks0 B Ds W →
    (∀ W' : World, Below B W W' → (∀ (g : Nat) (cs : Array Value) (T : Nat) (fr : Nat × Nat), W.heap[g]? = some (Obj.cells cs T fr) → W'.heap[g]? = some (Obj.cells cs T fr)) → LeavesIn F n P fn tmps R [] .returning W') →
    LeavesInM F n P fn tmps R (Ds.map markOf) .returning W
  | [], W, _, hK => hK W (Below.refl _ _) (fun _ _ _ _ h => h)
  | D :: Ds, W, hM, hK => by
    obtain ⟨hn, hnd⟩ := List.nodup_cons.1 hM.nd
    obtain ⟨hB, hW⟩ := hM.at_ D List.mem_cons_self
    refine ⟨by simp, .inl ⟨D, _, rfl, run_takeDeferred hW, ?_⟩⟩
    refine leaves_marks Ds _ ⟨hnd, fun d hd => ⟨(hM.at_ d (List.mem_cons_of_mem _ hd)).1, (World.putObj_heap_other (by rintro rfl; exact hn hd)).trans (hM.at_ d (List.mem_cons_of_mem _ hd)).2⟩⟩ fun W' hb hc => hK W' ?_ ?_
    · exact (show Below B W (W.putObj D (.deferred none)) from ⟨rfl, rfl, rfl, by simp, fun k hk => World.putObj_heap_other (by omega)⟩).trans hb
    · intro g cs T fr hg
      refine hc g cs T fr ((World.putObj_heap_other ?_).trans hg)
      rintro rfl
      rw [hW] at hg
      cases hg


end Go.Proofs.YtihbjimnjhfpeaaGreat
