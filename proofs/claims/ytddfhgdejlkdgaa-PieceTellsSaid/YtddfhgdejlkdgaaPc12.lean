/-
  What the document's call Places answers.
-/
import Derived.Test.YtddfhgdejlkdgaaPc11
set_option linter.unusedVariables false
namespace Go.Proofs.Ytddfhgdejlkdgaa
open Go.RowKit

theorem infoInt : (Try.prog.info? 3).map (fun i => (i.zero, i.size, i.bytes)) = some (some (.int .i64 0), 1, 8) := by kernel_rfl
def OwnI (w : World) (base : Nat) (v : Value) (l : List Int) : Prop := w.ownsRow base 3 1 v l.length (l.map fun x : Int => Value.int .i64 x)
theorem OwnI.keep {w w1 : World} {base : Nat} {v : Value} {l : List Int} (h : OwnI w base v l) (hb : Below w.heap.size w w1) : OwnI w1 base v l := by
  refine ⟨h.1, ?_⟩
  rcases h.2 with h2 | ⟨g, cap, cur, hv, hbg, hg, h1, h2, h3, h4⟩
  · exact .inl h2
  · exact .inr ⟨g, cap, cur, hv, hbg, by rw [hb.block g (Array.getElem?_eq_some_iff.1 hg).1]; exact hg, h1, h2, h3, h4⟩
theorem appI {w : World} {base g : Nat} {y : Int} {v : Value} {l : List Int} (hown : OwnI w base v l) (hx : w.cell? ⟨g, 0, none⟩ = some (.int .i64 y)) (hb : base ≤ w.heap.size) (hsm : l.length ≤ 2000000) :
    ∃ v' w', (Builtin.append_ #[28, 28] 28 #[v, .slice (some ⟨g, 0, none⟩) 1 1]).run Try.prog w = .ok v' w' ∧ OwnI w' base v' (l ++ [y]) ∧ Below base w w' := by
  obtain ⟨i0, hi, hz0, hz1, hz2⟩ := info_parts infoInt
  obtain ⟨v', w', hrun, h1, h2, _, h4⟩ := run_append_own_at (P := Try.prog) w base 28 28 3 i0 (.int .i64 0) 1 8 Try.underlying28 hi hz0 hz1 hz2 rfl (by decide) v l.length _ hown ⟨g, 0, none⟩ 1 1 [.int .i64 y] rfl
    (fun j u hj => by
      match j, hj with
      | 0, hj => simp only [List.getElem?_cons_zero] at hj; rw [← hj]; simpa [Addr.add] using hx
      | j + 1, hj => simp at hj) (by simp [Value.oneCell']) (by unfold maxLen; omega) (by omega) hb
  refine ⟨v', w', hrun, ?_, (Below.refl base w).grown h2 hb (fun j hj => (World.ownsRow.lt hown j hj).1)⟩
  unfold OwnI
  rw [List.length_append, List.map_append]
  exact h1
theorem placesL_tk (l : List Sp) (h : PBs l) (k : Nat) (hk : k ≤ l.length) : (placesL (l.take k)).length ≤ 1000 * k := by
  have hp : PBs (l.take k) := fun x hx => h x (List.mem_of_mem_take hx)
  have h1 := placesL_len (l.take k) hp
  have h2 := totS_le (l.take k) hp
  rw [List.length_take, Nat.min_eq_left hk] at h2
  omega
set_option maxHeartbeats 500000 in
theorem refPlaces_any (v : Value) (l : List Sp) (w : World) (hl : PBs l) (hlen : l.length ≤ 1000) (hv : PL w v l) :
    Calls Try.prog 11 #[v] w fun e w' => ∃ v', e = .returned v' ∧ OwnI w' w.heap.size v' (placesL l) ∧ Below w.heap.size w w' := by
  obtain ⟨n, hn⟩ : ∃ n, l.length = n := ⟨_, rfl⟩
  obtain ⟨A, cap, rfl, hC⟩ := hv.form hn
  have hI := Lib.hid (fun i (hi : i < n) => hl.at i (by omega))
  have hT := Lib.hid (fun i (hi : i < n) => places_take l i (by omega))
  have hL := Lib.hid (fun i (hi : i ≤ n) => placesL_tk l hl i (by omega))
  have hE := Lib.hid (show placesL (l.take n) = placesL l from by rw [List.take_of_length_le (by omega)])
  replace hC := Lib.hid hC
  have hln : n ≤ 1000 := by omega
  clear hv hlen hl
  replace hn := Lib.hid hn
  go_enter Try.func11, Try.ntmps11
  go_wp2_with fail
  go_loopw [3, 4, 5] (fun o x z wr => ∃ (k : Nat) (L : List Int), k ≤ n ∧ x = .int .i64 k ∧ Hid (L = placesL (l.take k)) ∧ L.length ≤ 1000 * k ∧ OwnI wr w.heap.size o L ∧ Below w.heap.size w wr) (fun _ x _ _ => n + 1 - (intOf x).toNat)
  case atStart => exact ⟨0, [], Nat.zero_le _, rfl, rfl, by simp, World.ownsRow_nil _ _ _ _, Below.refl _ _⟩
  case round =>
    obtain ⟨k, L, hk, rfl, hLe, hLl, hown, hB⟩ := hrel
    by_cases hlt : k < n
    · have hlt' : (k : Int) < (n : Int) := by omega
      have hxi := hI.out k hlt
      have hT1 := Lib.hid (hT.out k hlt)
      have hL1 := hL.out (k + 1) (by omega)
      rw [← hLe.out] at hT1
      have hCk := Lib.hid (fun w1 (hb : Below w.heap.size w w1) => hC.out w1 k hb hlt)
      generalize l.getD k (0, 0) = x at *
      obtain ⟨b1, b2, b3, b4⟩ := id hxi
      obtain ⟨m, hm⟩ : ∃ m, m = x.2.toNat := ⟨_, rfl⟩
      have hmx : (m : Int) = x.2 := by omega
      rw [← hm] at hT1
      have hm9 : m ≤ 1000 := by omega
      replace hmx := Lib.hid hmx
      replace hm := Lib.hid hm
      go_wp2_with fail
      go_loopw [3, 5] (fun o z wq => ∃ (j : Nat) (L' : List Int), j ≤ m ∧ z = .int .i64 j ∧ Hid (L' = L ++ pwL x j) ∧ L'.length = L.length + j ∧ OwnI wq w.heap.size o L' ∧ Below w.heap.size w wq) (fun _ z _ => m + 1 - (intOf z).toNat)
      case atStart => exact ⟨0, L, Nat.zero_le _, rfl, by show L = _; simp [pwL], rfl, hown, hB⟩
      case round =>
        clear hown hB
        obtain ⟨j, L', hj, rfl, hL2, hl2, hownq, hBq⟩ := hrel
        obtain ⟨g, off, rfl, hcap, hg, c0, c1⟩ := hCk.out wr hBq
        by_cases hjl : j < m
        · have q1 : (j : Int) < x.2 := by have := hmx.out; omega
          have hLn := Lib.hid (show L' ++ [x.1 + (j : Int)] = L ++ pwL x (j + 1) from by rw [hL2.out, pwL_succ, List.append_assoc])
          obtain ⟨v', w1, hrun, hown', hgr⟩ := appI (w := wr.alloc (.cells #[.int .i64 (x.1 + (j : Int))] (3 : Nat))) (y := x.1 + (j : Int)) (base := w.heap.size) (hownq.keep ((Below.refl _ _).alloc (Nat.le_refl _) _)) (cell_new1 wr _ _) (by have := hBq.size; simp; omega) (by omega)
          have hB1 := (hBq.alloc hBq.size (.cells #[.int .i64 (x.1 + (j : Int))] (3 : Nat))).trans hgr
          clear hgr hownq hBq
          go_wp2_with (at_builtin; refine wpList_append_run rfl _ _ 28 rfl _ _ _ rfl rfl hrun ?_)
          go_roundw
          case rel => exact ⟨j + 1, _, by omega, by go_num, hLn, by rw [List.length_append, hl2]; rfl, hown', hB1⟩
          case measure => simp [intOf]; omega
        · obtain rfl : j = m := by omega
          have q1 : x.2 ≤ (j : Int) := by have := hmx.out; omega
          have hfin := Lib.hid (show L' = placesL (l.take (k + 1)) from by rw [hL2.out, hT1.out])
          have hfl : L'.length ≤ 1000 * (k + 1) := by rw [hfin.out]; exact hL1
          go_wp2_with fail
          exact ⟨⟨k + 1, _, by omega, by go_num, hfin, hfl, hownq, hBq⟩, by simp [intOf]; omega⟩
    · obtain rfl : k = n := by omega
      have hR := Lib.hid (show L = placesL l from by rw [hLe.out, hE.out])
      go_wp2_with fail
      go_ret
      exact ⟨_, rfl, by rw [← hR.out]; exact hown, hB⟩
end Go.Proofs.Ytddfhgdejlkdgaa
