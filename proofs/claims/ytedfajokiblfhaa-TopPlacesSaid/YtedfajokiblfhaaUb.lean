/- Running where there is no answer; Sum at whatever lists; the reference's row and ours are the same. -/
import Derived.Test.YtedfajokiblfhaaUa
import Derived.Test.YtedfajokiblfhaaA7
namespace Go.Proofs.Ytedfajokiblfhaa.Lt
open Go.RowKit Go.Lib Go.Maps

theorem lSum_all (s : ByteArray) (r z d g : Int) (w : World) (hs : s.size ≤ maxLen) (v : Value) (l : List Int) (hl : RowI w v l) :
    Calls Try.prog 19 #[.agg #[.string s, .int .i64 r, .int .i64 z, .int .i64 d, .int .i64 g], v] w fun e w' => e = .returned (.tuple #[.int .i64 (sumA (validB s.data.toList r z d g) (dn r z.toNat) l), .int .i64 (askE (validB s.data.toList r z d g) l)]) ∧ Below w.heap.size w w' := by
  rcases ask_cases (validB s.data.toList r z d g) l with h | ⟨h, hv, ho, hlen⟩
  · rw [sumA_no h]
    exact lSum_no s r z d g w hs v l hl h
  · obtain ⟨_, _, ⟨z1, z2⟩, _, _⟩ := validB_iff.1 hv
    obtain ⟨Z, rfl⟩ := Int.eq_ofNat_of_zero_le (show 0 ≤ z by omega)
    rw [sumA_ok h, h]
    exact lSum_ok s r d g Z w hs v l hl hv ho hlen
theorem okL_app (l m : List Int) : okL (l ++ m) = (okL l && okL m) := by simp [okL]
theorem ask_app_no {v : Bool} {l m : List Int} (h1 : l.length ≤ 300) (h2 : m.length ≤ 300) (h : askE v l ≠ 0 ∨ askE v m ≠ 0) : askE v (l ++ m) ≠ 0 := by
  rcases ask_cases v (l ++ m) with g | ⟨_, rfl, ho, _⟩
  · exact g
  · rw [okL_app, Bool.and_eq_true] at ho
    rw [askE_ok (by omega) ho.1, askE_ok (by omega) ho.2] at h
    simp at h
theorem ask_app_ok {v : Bool} {l m : List Int} (h1 : l.length ≤ 300) (h2 : m.length ≤ 300) (h : askE v l = 0) (k : askE v m = 0) : askE v (l ++ m) = 0 := by
  rcases ask_cases v l with g | ⟨_, rfl, ho, _⟩
  · exact absurd h g
  · rcases ask_cases true m with g | ⟨_, _, ho', _⟩
    · exact absurd k g
    · exact askE_ok (by rw [List.length_append]; omega) (by rw [okL_app, ho, ho']; rfl)
theorem RowI.src {w : World} {v : Value} {l : List Int} (h : RowI w v l) : Src w v l := by
  rcases h with h | ⟨b, o, cap, hv, _, hc⟩
  · exact .inl h
  · exact .inr ⟨b, o, cap, hv, hc⟩
/-- A row of ints that the call owns, read. -/
theorem own_rowI {w : World} {base e : Nat} {v : Value} {l : List Int} (h : w.ownsRow base e 1 v l.length (ivs l)) (hl : l.length ≤ 1000000) : RowI w v l := by
  rcases h.2 with ⟨rfl, h0⟩ | ⟨g, cap, cur, rfl, _, hg, hcap, _, hcs, ht⟩
  · exact .inl ⟨none, 0, rfl, List.length_eq_zero_iff.1 h0⟩
  · refine .inr ⟨g, 0, cap, rfl, by unfold maxLen; omega, fun k hk => ?_⟩
    rw [Nat.zero_add, cell_of_row w g k cur e _ hg]
    have hx : (ivs l)[k]? = some (.int .i64 l[k]) := by simp [ivs, hk]
    rw [← ht, List.getElem?_take_of_lt (by omega)] at hx
    simpa using hx
theorem app_below {W W0 w' : World} {base e : Nat} {v v' : Value} {xs : List Value} {l : List Int} (hW : Below W.heap.size W W0) (hown : W0.ownsRow base e 1 v xs.length xs) (hb : W.heap.size ≤ base) (h : AppP W0 base e v xs l v' w') : Below W.heap.size W w' :=
  hW.grown h.2.1 hW.size (fun k hk => by have := (World.ownsRow.lt hown k hk).1; omega)
theorem app_first {W0 w' : World} {base e : Nat} {v v' : Value} {l : List Int} (h : AppP W0 base e v [] l v' w') : w'.ownsRow base e 1 v' (ivs l).length (ivs l) := by
  have := h.1
  rwa [List.length_nil, Nat.zero_add, List.nil_append, ← ivs_len l] at this
theorem app_next {W0 w' : World} {base e : Nat} {v v' : Value} {l m : List Int} (h : AppP W0 base e v (ivs l) m v' w') : w'.ownsRow base e 1 v' (l ++ m).length (ivs (l ++ m)) := by
  have := h.1
  rwa [ivs_len, ← List.length_append, show ivs l ++ ivs m = ivs (l ++ m) by simp [ivs]] at this
end Go.Proofs.Ytedfajokiblfhaa.Lt
