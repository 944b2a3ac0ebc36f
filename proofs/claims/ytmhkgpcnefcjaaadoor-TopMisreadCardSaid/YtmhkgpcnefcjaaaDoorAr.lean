/- What is read of a printed code; layer 6's example of the whole; has6; rows of bytes: contracts. -/
import Derived.Test.YtmhkgpcnefcjaaaDoorAj
import Derived.Test.YtmhkgpcnefcjaaaDoorAl
import Derived.Test.YtmhkgpcnefcjaaaDoorMb
import Derived.Test.YtmhkgpcnefcjaaaDoorCg
import Derived.Test.YtmhkgpcnefcjaaaDoorCb
namespace Go.Proofs.YtmhkgpcnefcjaaaDoor
open Go.RowKit

theorem code_nine {x : Stp} {c : ByteArray} (h : x.ok = true) (hc : IsCode x c) : nineB c = true ∧ soundS c = true ∧ soundB (vals c) = true ∧ c.size = 9 := by
  obtain ⟨y, hy, rfl⟩ := hc
  obtain ⟨h1, h2, _⟩ := code_facts x.pl x.pr x.ln x.dy x.pe y h hy
  refine ⟨h1, h2, ?_, (nineB_iff.1 h1).1⟩
  unfold soundS at h2
  rw [h1, Bool.true_and] at h2
  exact h2
theorem cread_f (x : Stp) (c : ByteArray) (w : World) (h : x.ok = true) (hc : IsCode x c) (hw : Wts w) :
    Calls Tryd.prog 31 #[.string c, .int .i64 x.dy] w fun e w' => e = .returned (.tuple #[.agg #[.string x.pl, .string x.pr, .string x.ln, .int .i64 x.dy, .int .i64 x.pe], .int .i64 0]) ∧ Below w.heap.size w w' := by
  obtain ⟨y, hy, rfl⟩ := hc
  obtain ⟨h1, h2, h3, h4, h5, h6, h7, h8⟩ := code_facts x.pl x.pr x.ln x.dy x.pe y h hy
  have hb := year_bd hy
  have l1 := (latest_facts hy hy _ rfl).1 (by omega) (by omega)
  have hr := cread_R (printS x.pl x.pr x.ln x.dy x.pe y) x.dy y (some y) w h1 h2 hw hy (by rw [h4]; omega) (by rw [h3, h4]; exact l1)
  rw [h4, h5] at hr
  refine hr.mono fun e w' g => ⟨?_, g.2⟩
  rw [g.1]
  unfold readV
  simp only
  rw [h6, h7, h8]
  have : soY y + (x.dy - soY y) = x.dy := by omega
  rw [this]
set_option maxRecDepth 20000 in
set_option maxHeartbeats 2000000 in
theorem has6_any (v : Value) (l : List Int) (n : Int) (w : World) (hr : RowI w v l) :
    Calls Tryd.prog 30 #[v, .int .i64 n] w fun e w' => e = .returned (.bool (decide (n ∈ l))) ∧ w = w' := by
  have hM := hr.most
  unfold maxLen at hM
  obtain ⟨a, b, o, cap, rfl, ha, hc, _⟩ := hr.form
  have HA := hid ha
  have HC := hid hc
  clear ha hc hr
  go_enter Tryd.func30, Tryd.ntmps30
  go_wp2
  go_loop [5] (fun t => ∃ k : Nat, k ≤ l.length ∧ t = .int .i64 (k : Int) ∧ Hid (∀ j (h : j < l.length), j < k → l[j] ≠ n)) (fun t => l.length - (intOf t).toNat)
  case atStart => exact ⟨0, Nat.zero_le _, rfl, fun j _ h => absurd h (Nat.not_lt_zero _)⟩
  case round =>
    obtain ⟨k, hk, rfl, hok⟩ := hrel
    by_cases hlt : k < l.length
    · have hlt' : (k : Int) < l.length := by omega
      have ex := HC.out k hlt
      rcases HA.out with h0 | rfl
      · exact absurd hlt (by rw [h0]; simp)
      have hin := List.getElem_mem hlt
      have HST := hid (fun (h : l[k] ≠ n) => show ∀ j (hj : j < l.length), j < k + 1 → l[j] ≠ n from fun j hj hj2 => by
        rcases Nat.lt_succ_iff_lt_or_eq.1 hj2 with h1 | h1
        · exact hok.out j hj h1
        · subst h1; exact h)
      have HLT := hid hlt
      generalize l[k] = x at *
      clear hlt
      by_cases he : x = n
      · subst he
        have HE := hid (decide_eq_true hin)
        clear hin
        go_wp2
        go_ret
        exact ⟨ret_bool HE.out.symm, rfl⟩
      · have HS := hid (HST.out he)
        have hne : (x == n) = false := by simpa using he
        clear hin
        go_wp2
        go_round
        case rel => exact ⟨k + 1, HLT.out, by go_num, HS⟩
        case measure => have := HLT.out; simp [intOf]; omega
    · obtain rfl : k = l.length := by omega
      have HE : Hid (decide (n ∈ l) = false) := decide_eq_false fun h => by
        obtain ⟨j, hj, e⟩ := List.getElem_of_mem h
        exact hok.out j hj hj e
      clear hok
      go_wp2
      go_ret
      exact ⟨ret_bool HE.out.symm, rfl⟩
/-- A slice of bytes that is read. -/
def RowB (w : World) (v : Value) (l : List Int) : Prop :=
  ∃ (a : Option Addr) (b o cap : Nat), v = .slice a l.length cap ∧ (l = [] ∨ a = some ⟨b, o, none⟩) ∧ l.length ≤ maxLen ∧ ∀ j (h : j < l.length), w.cell? ⟨b, o + j, none⟩ = some (.int .u8 l[j]) ∧ 0 ≤ l[j] ∧ l[j] ≤ 255
theorem RowB.keep {w w2 : World} {v : Value} {l : List Int} (h : RowB w v l) (hb : Below w.heap.size w w2) : RowB w2 v l := by
  obtain ⟨a, b, o, cap, h1, h2, h3, h4⟩ := h
  exact ⟨a, b, o, cap, h1, h2, h3, fun j hj => ⟨keep_cell hb (h4 j hj).1, (h4 j hj).2⟩⟩
theorem RowB.nil (w : World) (a : Option Addr) (cap : Nat) : RowB w (.slice a 0 cap) [] := ⟨a, 0, 0, cap, rfl, .inl rfl, Nat.zero_le _, fun j h => absurd h (Nat.not_lt_zero j)⟩
theorem RowB.most {w : World} {v : Value} {l : List Int} (h : RowB w v l) : l.length ≤ maxLen := by
  obtain ⟨_, _, _, _, _, _, h3, _⟩ := h
  exact h3
theorem RowB.shape {w : World} {v : Value} {l : List Int} (h : RowB w v l) : ∃ a cap, v = .slice a l.length cap := by
  obtain ⟨a, _, _, cap, h1, _⟩ := h
  exact ⟨a, cap, h1⟩
section
open Go.ChangeShapes Go.WideShapes Go.ChangeAt Go.Joins Go.Deep
variable {H : Type} {enc : TypeId × Value → H} {w : World} {base : Nat} {spare : Nat → Bool} {held : Bool}
set_option maxRecDepth 100000 in
theorem cellsB : Tryd.prog.cellsOf 5 = 1 := by kernel_rfl
set_option maxRecDepth 100000 in
theorem open_bytes {r : Reach} {b0 : Nat} {v : Value} {d : DataW H} {p : List MemPlace} (hv : Value.okWide Tryd.prog w r b0 50 v) (h : DataW.Trod enc Tryd.prog w base spare held 50 v d p) :
    ∃ l : List Int, RowB w v l := by
  obtain ⟨a0, len, cap, rfl⟩ := okWide_slice Tryd.underlying50 hv
  obtain ⟨fuel, hf⟩ := h
  rcases open_ints Tryd.underlying50 Tryd.underlying5 cellsB hf with ⟨hcs, hx⟩ | ⟨a, len', cap', zs, hcs, _, hl, hm, hz, hx, hcell, hwz⟩
  · simp [Value.cells] at hcs
    obtain ⟨rfl, rfl, rfl⟩ := hcs
    exact ⟨[], RowB.nil w _ _⟩
  · simp [Value.cells] at hcs
    obtain ⟨rfl, rfl, rfl⟩ := hcs
    have hz' : len ≤ zs.length := by rw [hz]; split <;> omega
    clear hz
    by_cases hp : 0 < zs.length
    · obtain ⟨b, off, rfl, hc⟩ := ints_at hcell hp
      have ht : (zs.take len).length = len := by rw [List.length_take]; omega
      refine ⟨zs.take len, _, b, off, cap, by rw [ht], .inr rfl, by rw [ht]; omega, fun k hk => ?_⟩
      rw [ht] at hk
      have hw := hwz (zs[k]'(by omega)) (List.getElem_mem _)
      have hb := bounds_u8 hw
      rw [hc k (by omega), List.getElem_take]
      refine ⟨by simp [List.getD, show k < zs.length by omega], by omega, by omega⟩
    · obtain rfl : len = 0 := by omega
      exact ⟨[], RowB.nil w _ _⟩
end
end Go.Proofs.YtmhkgpcnefcjaaaDoor
