/-
  What the document's call At answers; it is what the package's answers.
-/
import Derived.Test.YtddfhgdejlkdgaaPc15
set_option linter.unusedVariables false
namespace Go.Proofs.Ytddfhgdejlkdgaa
open Go.RowKit

def atP (P : List Int) (i : Int) : Int := if 0 ≤ i ∧ i < (P.length : Int) then P.getD i.toNat 0 else -1
theorem atL_one (x : Sp) (i : Int) (h : 0 ≤ i) (h2 : i < x.2) : atL [x] i = x.1 + i := by
  unfold atL cutL
  rw [if_neg (show ¬ (i < 0 ∨ (1 : Int) < 1) by omega), totS_cons, totS_nil]
  simp only []
  rw [if_pos (by omega)]
  simp only [interL, inter1]
  rw [if_pos (by omega)]
  simp only [List.cons_append, List.nil_append, headP]
  omega
theorem atL_atP : ∀ (l : List Sp), PBs l → ∀ i : Int, atL l i = atP (placesL l) i
  | [], _, i => by
    have e : atL [] i = -1 := by
      unfold atL cutL
      split
      · rfl
      · split <;> rfl
    rw [e]
    unfold atP
    rw [if_neg (by simp [placesL])]
  | x :: l, h, i => by
    have hx : PBs [x] := fun y hy => by simp at hy; subst hy; exact h _ (by simp)
    have hl : PBs l := fun y hy => h y (by simp [hy])
    have hxx := h x (by simp)
    obtain ⟨b1, b2, b3, b4⟩ := hxx
    have e : placesL (x :: l) = pwL x x.2.toNat ++ placesL l := rfl
    have e2 : (pwL x x.2.toNat).length = x.2.toNat := by simp [pwL]
    by_cases hi : i < 0
    · unfold atP
      rw [if_neg (by omega)]
      unfold atL cutL
      rw [if_pos (Or.inl hi)]
      rfl
    · have ha := atL_app hx hl i (by omega)
      rw [List.singleton_append, totS_cons, totS_nil, Int.add_zero] at ha
      rw [ha, e]
      have ih := atL_atP l hl (i - x.2)
      unfold atP at ih ⊢
      rw [List.length_append, e2]
      split
      · rename_i hlt
        rw [atL_one x i (by omega) hlt, if_pos (by omega), List.getD_eq_getElem?_getD, List.getElem?_append_left (by rw [e2]; omega)]
        simp [pwL]
        rw [List.getElem?_range (by omega)]
        simp; omega
      · rename_i hge
        rw [ih]
        by_cases q : i - x.2 < ((placesL l).length : Int)
        · rw [if_pos (by omega), if_pos (by omega), List.getD_eq_getElem?_getD, List.getD_eq_getElem?_getD, List.getElem?_append_right (by rw [e2]; omega), e2, show i.toNat - x.2.toNat = (i - x.2).toNat by omega]
        · rw [if_neg (by omega), if_neg (by omega)]
set_option maxHeartbeats 2000000 in
theorem refAt_any (v : Value) (l : List Sp) (i : Int) (w : World) (hl : PBs l) (hlen : l.length ≤ 1000) (hv : PL w v l) :
    Calls Try.prog 13 #[v, .int .i64 i] w fun e w' => e = .returned (.int .i64 (atL l i)) ∧ Below w.heap.size w w' := by
  rw [atL_atP l hl i]
  have hPl := Lib.hid (refPlaces_any v l w hl hlen hv)
  generalize placesL l = P at *
  obtain ⟨n, hn⟩ : ∃ n, P.length = n := ⟨_, rfl⟩
  have hA := Lib.hid (show atP P i = if 0 ≤ i ∧ i < (n : Int) then P.getD i.toNat 0 else -1 from by unfold atP; rw [hn])
  replace hn := Lib.hid hn
  clear hl hlen hv
  go_enter Try.func13, Try.ntmps13
  go_wp2_with fail
  refine hPl.out.mono ?_
  rintro e w1 ⟨vp, rfl, hop, hb1⟩
  obtain ⟨A, cap, rfl, hC⟩ := hop.il.form hn.out
  replace hC := Lib.hid hC
  clear hop hPl
  by_cases k1 : i < 0
  · have hR := Lib.hid (show atP P i = -1 from by rw [hA.out, if_neg (by omega)])
    go_wp2_with fail
    go_ret
    exact ⟨by rw [hR.out]; rfl, hb1⟩
  · obtain ⟨j, rfl⟩ := Int.eq_ofNat_of_zero_le (show 0 ≤ i by omega)
    clear k1
    by_cases k2 : j < n
    · obtain ⟨g, off, rfl, hcap, hg, c0⟩ := hC.out w1 j (Below.refl _ _) k2
      have hR := Lib.hid (show atP P (j : Int) = P.getD j 0 from by rw [hA.out, if_pos (by omega)]; rfl)
      have k2' : (j : Int) < (n : Int) := by omega
      generalize P.getD j 0 = y at *
      go_wp2_with fail
      go_ret
      exact ⟨by rw [hR.out]; rfl, hb1⟩
    · have k2' : (n : Int) ≤ (j : Int) := by omega
      have hR := Lib.hid (show atP P (j : Int) = -1 from by rw [hA.out, if_neg (by omega)])
      go_wp2_with fail
      go_ret
      exact ⟨by rw [hR.out]; rfl, hb1⟩
end Go.Proofs.Ytddfhgdejlkdgaa
