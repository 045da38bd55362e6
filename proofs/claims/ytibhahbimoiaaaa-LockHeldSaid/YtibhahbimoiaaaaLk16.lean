/-
  The laws of package lock: LockHeld.
-/
import Derived.Test.YtibhahbimoiaaaaLk15
import Derived.Test.YtibhahbimoiaaaaRegX
set_option linter.unusedVariables false
set_option linter.unusedSimpArgs false
namespace Go.Proofs.Ytibhahbimoiaaaa
open Go.RowKit Go.ChangeShapes Go.WideShapes Go.Deep
open Go.Maps

set_option maxRecDepth 10000 in
set_option maxHeartbeats 4000000 in
theorem lockHeld (v : Value) (l : List Lx) (a b : Int) (w : World) (hl : LL l) (hv : LPL w v l) (hz : l.length ≤ 9000000000000) (ha : I64 a) (hb : I64 b) :
    Calls Try.prog 13 #[v, .int .i64 a, .int .i64 b] w fun e w' => e = .returned (.bool true) ∧ Below w.heap.size w w' := by
  have hD := Lib.hid (fun w1 (hb : Below w.heap.size w w1) => doneO v l w w1 hl (by omega) hv hb)
  obtain ⟨n, hn⟩ : ∃ n, l.length = n := ⟨_, rfl⟩
  obtain ⟨A, cap, rfl, _⟩ := EL.form hv hn
  rw [hn] at hD hz
  generalize doneG l = g at *
  clear hl hv hn
  replace ha := Lib.hid ha
  replace hb := Lib.hid hb
  go_enter Try.func13, Try.ntmps13
  go_wp2_with fail
  refine (awake18 _).mono ?_
  rintro e w1 ⟨rfl, hb1⟩
  go_wp2_with fail
  refine (hD.out _ hb1).mono ?_
  rintro e w2 ⟨B, M, rfl, t2⟩
  have hB2 := t2.bel
  clear hD
  by_cases hlong : 60 < n
  · have h1 : (60 : Int) < (n : Int) := by omega
    go_wp2_with fail
    go_ret
    exact ⟨rfl, hB2⟩
  have h1 : ¬ (60 : Int) < (n : Int) := by omega
  clear hB2
  have hH := Lib.hid (heldO (lane := a) t2 (by omega))
  clear t2
  go_wp2_with fail
  refine hH.out.mono ?_
  clear hH
  rintro e w3 ⟨v3, X, rfl, ho3, hX, hXn, t3, _⟩
  obtain ⟨m, hm⟩ : ∃ m, X.length = m := ⟨_, rfl⟩
  obtain ⟨AX, capX, rfl, _⟩ := (ho3.el iE_len).form hm
  have hH := Lib.hid (heldO (lane := b) t3 (by omega))
  clear t3
  go_wp2_with fail
  refine hH.out.mono ?_
  clear hH
  rintro e w4 ⟨v4, Y, rfl, ho4, hY, hYn, t4, hb4⟩
  obtain ⟨m2, hm2⟩ : ∃ m, Y.length = m := ⟨_, rfl⟩
  obtain ⟨AY, capY, rfl, hCY⟩ := (ho4.el iE_len).form hm2
  obtain ⟨_, _, hq, hCX⟩ := ((ho3.keep hb4).el iE_len).form hm
  cases hq
  have hI := Lib.hid (fun w1 (hb : Below w4.heap.size w4 w1) => ints_any _ _ X Y w1 (by omega) (((ho3.keep hb4).el iE_len).keep hb) ((ho4.el iE_len).keep hb))
  have hin := Lib.hid (fun k (h : k < m) => show g (X.getD k default) = some a from (hX.mem _).1 (by rw [List.getD_eq_getElem?_getD, List.getElem?_eq_getElem (by omega)]; exact List.getElem_mem _))
  have hin2 := Lib.hid (fun k (h : k < m2) => show g (Y.getD k default) = some b from (hY.mem _).1 (by rw [List.getD_eq_getElem?_getD, List.getElem?_eq_getElem (by omega)]; exact List.getElem_mem _))
  have h64 := Lib.hid (fun k (h : k < m) => (t4.tab.got (hin.out k h)).1)
  have hsame := Lib.hid (fun (e : a = b) => show decide (X = Y) = true from decide_eq_true ((e ▸ hX).uniq hY))
  have hMs := Lib.hid t4.tab.ltM
  have hown := Lib.hid (fun w1 (hb : Below w4.heap.size w4 w1) k (h : k < m) => (ownG_of (hin.out k h)) ▸ ownerO (t4.keep hb) (h64.out k h))
  have hB4 := t4.bel
  have hm9 : m ≤ 1000 := by omega
  have hm29 : m2 ≤ 1000 := by omega
  replace hCX := Lib.hid hCX
  replace hCY := Lib.hid hCY
  clear ho3 ho4 hX hY hm hm2 t4 hXn hYn hb4
  go_wp2_with fail
  go_loopw [11] (fun i wr => ∃ k : Nat, k ≤ m ∧ i = .int .i64 k ∧ Below w4.heap.size w4 wr) (fun i _ => m + 1 - (intOf i).toNat)
  case atStart => exact ⟨0, Nat.zero_le _, rfl, Below.refl _ _⟩
  case round =>
    obtain ⟨k, hk, rfl, hBr⟩ := hrel
    by_cases hlt : k < m
    · obtain ⟨g1, off1, rfl, hcap1, _, hg1, hcl1⟩ := hCX.out wr k hBr hlt
      have d0 := hcl1 0 (by omega)
      rw [Nat.add_zero, Nat.mul_one] at d0
      have hlt' : (k : Int) < (m : Int) := by omega
      have hO := Lib.hid (hown.out wr hBr k hlt)
      have hix := Lib.hid (hin.out k hlt)
      clear hcl1
      generalize X.getD k default = x at *
      replace d0 : wr.cell? ⟨g1, off1 + k, none⟩ = some (.int .i64 x) := d0
      go_wp2_with fail
      refine hO.out.mono ?_
      clear hO
      rintro e w7 ⟨rfl, rfl⟩
      go_wp2_with fail
      go_loopw [12] (fun j wr => ∃ q : Nat, q ≤ m2 ∧ j = .int .i64 q ∧ Below w4.heap.size w4 wr ∧ wr.cell? ⟨g1, off1 + k, none⟩ = some (.int .i64 x)) (fun j _ => m2 + 1 - (intOf j).toNat)
      case atStart => exact ⟨0, Nat.zero_le _, rfl, hBr, d0⟩
      case round =>
        clear d0 hBr
        obtain ⟨q, hq, rfl, hBs, d0⟩ := hrel
        by_cases hlt2 : q < m2
        · have hlt2' : (q : Int) < (m2 : Int) := by omega
          by_cases hab : a = b
          · subst hab
            have t1 : (a != a) = false := by simp
            go_wp2_with fail
            refine wp_region_held_drew (S := (fun w' => w'.cell? ⟨g1, off1 + k, none⟩ = some (.int .i64 x) ∧ Below w4.heap.size w4 w')) (by kernel_rfl) ?_ (fun hHeld => ?_)
            · (try dsimp only)
              (first | assumption | (exact ⟨d0, hBs.drew⟩))
            refine takeL 0 (v := ?_) rfl (by kernel_rfl) (by kernel_rfl) (by kernel_rfl) (fun _ _ _ h => h) (by rfl) (by assumption) ?_ ?_
            rotate_left
            · (intro w hSw; (try dsimp only at hSw); go_simp <;> with_reducible rfl)
            try simp only [Act.put, List.setIfInBounds_toArray, List.set_cons_zero, List.set_cons_succ]
            refine takeL 1 (v := ?_) rfl (by kernel_rfl) (by kernel_rfl) (by kernel_rfl) (fun _ _ _ h => h) (by rfl) (by assumption) ?_ ?_
            rotate_left
            · (intro w hSw; (try dsimp only at hSw); go_simp <;> with_reducible rfl)
            try simp only [Act.put, List.setIfInBounds_toArray, List.set_cons_zero, List.set_cons_succ]
            refine takeL 2 (v := ?_) rfl (by kernel_rfl) (by kernel_rfl) (by kernel_rfl) (fun _ _ _ h => h) (by rfl) (by assumption) ?_ ?_
            rotate_left
            · (intro w hSw; (try dsimp only at hSw); go_simp <;> with_reducible rfl)
            try simp only [Act.put, List.setIfInBounds_toArray, List.set_cons_zero, List.set_cons_succ]
            refine takeL 3 (v := ?_) rfl (by kernel_rfl) (by kernel_rfl) (by kernel_rfl) (fun _ _ _ h => h) (by rfl) (by assumption) ?_ ?_
            rotate_left
            · (intro w hSw; (try dsimp only at hSw); go_simp <;> with_reducible rfl)
            try simp only [Act.put, List.setIfInBounds_toArray, List.set_cons_zero, List.set_cons_succ]
            refine idleL 4 rfl (by kernel_rfl) (by kernel_rfl) (by kernel_rfl) (fun _ _ _ h => h) (by rfl) (by assumption) ?_
            try simp only [Act.put, List.setIfInBounds_toArray, List.set_cons_zero, List.set_cons_succ]
            refine idleL 5 rfl (by kernel_rfl) (by kernel_rfl) (by kernel_rfl) (fun _ _ _ h => h) (by rfl) (by assumption) ?_
            try simp only [Act.put, List.setIfInBounds_toArray, List.set_cons_zero, List.set_cons_succ]
            refine idleL 6 rfl (by kernel_rfl) (by kernel_rfl) (by kernel_rfl) (fun _ _ _ h => h) (by rfl) (by assumption) ?_
            try simp only [Act.put, List.setIfInBounds_toArray, List.set_cons_zero, List.set_cons_succ]
            refine idleL 7 rfl (by kernel_rfl) (by kernel_rfl) (by kernel_rfl) (fun _ _ _ h => h) (by rfl) (by assumption) ?_
            try simp only [Act.put, List.setIfInBounds_toArray, List.set_cons_zero, List.set_cons_succ]
            refine idleL 8 rfl (by kernel_rfl) (by kernel_rfl) (by kernel_rfl) (fun _ _ _ h => h) (by rfl) (by assumption) ?_
            try simp only [Act.put, List.setIfInBounds_toArray, List.set_cons_zero, List.set_cons_succ]
            refine idleL 9 rfl (by kernel_rfl) (by kernel_rfl) (by kernel_rfl) (fun _ _ _ h => h) (by rfl) (by assumption) ?_
            try simp only [Act.put, List.setIfInBounds_toArray, List.set_cons_zero, List.set_cons_succ]
            refine idleL 10 rfl (by kernel_rfl) (by kernel_rfl) (by kernel_rfl) (fun _ _ _ h => h) (by rfl) (by assumption) ?_
            try simp only [Act.put, List.setIfInBounds_toArray, List.set_cons_zero, List.set_cons_succ]
            refine idleL 11 rfl (by kernel_rfl) (by kernel_rfl) (by kernel_rfl) (fun _ _ _ h => h) (by rfl) (by assumption) ?_
            try simp only [Act.put, List.setIfInBounds_toArray, List.set_cons_zero, List.set_cons_succ]
            refine idleL 12 rfl (by kernel_rfl) (by kernel_rfl) (by kernel_rfl) (fun _ _ _ h => h) (by rfl) (by assumption) ?_
            try simp only [Act.put, List.setIfInBounds_toArray, List.set_cons_zero, List.set_cons_succ]
            refine takeL 13 (v := ?_) rfl (by kernel_rfl) (by kernel_rfl) (by kernel_rfl) (fun _ _ _ h => h) (by rfl) (by assumption) ?_ ?_
            rotate_left
            · (intro w hSw; (try dsimp only at hSw); go_simp <;> with_reducible rfl)
            try simp only [Act.put, List.setIfInBounds_toArray, List.set_cons_zero, List.set_cons_succ]
            refine wpAnyH_done (by kernel_rfl) ?_ _
            obtain ⟨hd, hBd⟩ := hHeld
            go_wp2_with fail
            go_roundw
            case rel => exact ⟨q + 1, by omega, by go_num, hBd, hd⟩
            case measure => simp [intOf]; omega
          · obtain ⟨g2, off2, rfl, hcap2, _, hg2, hcl2⟩ := hCY.out wr q hBs hlt2
            have e0 := hcl2 0 (by omega)
            rw [Nat.add_zero, Nat.mul_one] at e0
            have hiy := Lib.hid (hin2.out q hlt2)
            clear hcl2
            generalize Y.getD q default = y at *
            replace e0 : wr.cell? ⟨g2, off2 + q, none⟩ = some (.int .i64 y) := e0
            have t1 : (a != b) = true := by rw [bne_iff_ne]; exact hab
            have t2 : (x == y) = false := by
              rw [beq_eq_false_iff_ne]
              intro e
              have h5 := hix.out
              rw [e, hiy.out] at h5
              injection h5 with h5
              exact hab h5.symm
            go_wp2_with fail
            refine wp_region_held_drew (S := (fun w' => w'.cell? ⟨g1, off1 + k, none⟩ = some (.int .i64 x) ∧ w'.cell? ⟨g2, off2 + q, none⟩ = some (.int .i64 y) ∧ Below w4.heap.size w4 w')) (by kernel_rfl) ?_ (fun hHeld => ?_)
            · (try dsimp only)
              (first | assumption | (exact ⟨d0, e0, hBs.drew⟩))
            refine takeL 0 (v := ?_) rfl (by kernel_rfl) (by kernel_rfl) (by kernel_rfl) (fun _ _ _ h => h) (by rfl) (by assumption) ?_ ?_
            rotate_left
            · (intro w hSw; (try dsimp only at hSw); (try go_split_ands); go_simp <;> with_reducible rfl)
            try simp only [Act.put, List.setIfInBounds_toArray, List.set_cons_zero, List.set_cons_succ]
            refine takeL 1 (v := ?_) rfl (by kernel_rfl) (by kernel_rfl) (by kernel_rfl) (fun _ _ _ h => h) (by rfl) (by assumption) ?_ ?_
            rotate_left
            · (intro w hSw; (try dsimp only at hSw); (try go_split_ands); go_simp <;> with_reducible rfl)
            try simp only [Act.put, List.setIfInBounds_toArray, List.set_cons_zero, List.set_cons_succ]
            refine takeL 2 (v := ?_) rfl (by kernel_rfl) (by kernel_rfl) (by kernel_rfl) (fun _ _ _ h => h) (by rfl) (by assumption) ?_ ?_
            rotate_left
            · (intro w hSw; (try dsimp only at hSw); (try go_split_ands); go_simp <;> with_reducible rfl)
            try simp only [Act.put, List.setIfInBounds_toArray, List.set_cons_zero, List.set_cons_succ]
            refine takeL 3 (v := ?_) rfl (by kernel_rfl) (by kernel_rfl) (by kernel_rfl) (fun _ _ _ h => h) (by rfl) (by assumption) ?_ ?_
            rotate_left
            · (intro w hSw; (try dsimp only at hSw); (try go_split_ands); go_simp <;> with_reducible rfl)
            try simp only [Act.put, List.setIfInBounds_toArray, List.set_cons_zero, List.set_cons_succ]
            refine takeL 4 (v := ?_) rfl (by kernel_rfl) (by kernel_rfl) (by kernel_rfl) (fun _ _ _ h => h) (by rfl) (by assumption) ?_ ?_
            rotate_left
            · (intro w hSw; (try dsimp only at hSw); (try go_split_ands); go_simp <;> with_reducible rfl)
            try simp only [Act.put, List.setIfInBounds_toArray, List.set_cons_zero, List.set_cons_succ]
            refine takeL 5 (v := ?_) rfl (by kernel_rfl) (by kernel_rfl) (by kernel_rfl) (fun _ _ _ h => h) (by rfl) (by assumption) ?_ ?_
            rotate_left
            · (intro w hSw; (try dsimp only at hSw); (try go_split_ands); go_simp <;> with_reducible rfl)
            try simp only [Act.put, List.setIfInBounds_toArray, List.set_cons_zero, List.set_cons_succ]
            refine takeL 6 (v := ?_) rfl (by kernel_rfl) (by kernel_rfl) (by kernel_rfl) (fun _ _ _ h => h) (by rfl) (by assumption) ?_ ?_
            rotate_left
            · (intro w hSw; (try dsimp only at hSw); (try go_split_ands); go_simp <;> with_reducible rfl)
            try simp only [Act.put, List.setIfInBounds_toArray, List.set_cons_zero, List.set_cons_succ]
            refine takeL 7 (v := ?_) rfl (by kernel_rfl) (by kernel_rfl) (by kernel_rfl) (fun _ _ _ h => h) (by rfl) (by assumption) ?_ ?_
            rotate_left
            · (intro w hSw; (try dsimp only at hSw); (try go_split_ands); go_simp <;> with_reducible rfl)
            try simp only [Act.put, List.setIfInBounds_toArray, List.set_cons_zero, List.set_cons_succ]
            refine takeL 8 (v := ?_) rfl (by kernel_rfl) (by kernel_rfl) (by kernel_rfl) (fun _ _ _ h => h) (by rfl) (by assumption) ?_ ?_
            rotate_left
            · (intro w hSw; (try dsimp only at hSw); (try go_split_ands); go_simp <;> with_reducible rfl)
            try simp only [Act.put, List.setIfInBounds_toArray, List.set_cons_zero, List.set_cons_succ]
            refine takeL 9 (v := ?_) rfl (by kernel_rfl) (by kernel_rfl) (by kernel_rfl) (fun _ _ _ h => h) (by rfl) (by assumption) ?_ ?_
            rotate_left
            · (intro w hSw; (try dsimp only at hSw); (try go_split_ands); go_simp <;> with_reducible rfl)
            try simp only [Act.put, List.setIfInBounds_toArray, List.set_cons_zero, List.set_cons_succ]
            refine takeL 10 (v := ?_) rfl (by kernel_rfl) (by kernel_rfl) (by kernel_rfl) (fun _ _ _ h => h) (by rfl) (by assumption) ?_ ?_
            rotate_left
            · (intro w hSw; (try dsimp only at hSw); (try go_split_ands); go_simp <;> with_reducible rfl)
            try simp only [Act.put, List.setIfInBounds_toArray, List.set_cons_zero, List.set_cons_succ]
            refine takeL 11 (v := ?_) rfl (by kernel_rfl) (by kernel_rfl) (by kernel_rfl) (fun _ _ _ h => h) (by rfl) (by assumption) ?_ ?_
            rotate_left
            · (intro w hSw; (try dsimp only at hSw); (try go_split_ands); go_simp <;> with_reducible rfl)
            try simp only [Act.put, List.setIfInBounds_toArray, List.set_cons_zero, List.set_cons_succ]
            refine takeL 12 (v := ?_) rfl (by kernel_rfl) (by kernel_rfl) (by kernel_rfl) (fun _ _ _ h => h) (by rfl) (by assumption) ?_ ?_
            rotate_left
            · (intro w hSw; (try dsimp only at hSw); (try go_split_ands); go_simp <;> with_reducible rfl)
            try simp only [Act.put, List.setIfInBounds_toArray, List.set_cons_zero, List.set_cons_succ]
            refine takeL 13 (v := ?_) rfl (by kernel_rfl) (by kernel_rfl) (by kernel_rfl) (fun _ _ _ h => h) (by rfl) (by assumption) ?_ ?_
            rotate_left
            · (intro w hSw; (try dsimp only at hSw); (try go_split_ands); go_simp <;> with_reducible rfl)
            try simp only [Act.put, List.setIfInBounds_toArray, List.set_cons_zero, List.set_cons_succ]
            refine wpAnyH_done (by kernel_rfl) ?_ _
            obtain ⟨hd, _, hBd⟩ := hHeld
            go_wp2_with fail
            go_roundw
            case rel => exact ⟨q + 1, by omega, by go_num, hBd, hd⟩
            case measure => simp [intOf]; omega
        · obtain rfl : q = m2 := by omega
          go_wp2_with fail
          go_roundw
          case rel => exact ⟨k + 1, by omega, by go_num, hBs⟩
          case measure => simp [intOf]; omega
    · obtain rfl : k = m := by omega
      by_cases hab : a = b
      · have t1 : (a != b) = false := by rw [hab]; simp
        have hI2 := Lib.hid (hI.out wr hBr)
        rw [hsame.out hab] at hI2
        clear hI hsame hab
        go_wp2_with fail
        refine hI2.out.mono ?_
        rintro e w9 ⟨rfl, hb9⟩
        have hB9 := hB4.trans ((hBr.trans (hb9.mono hBr.size)).mono hB4.size)
        go_wp2_with fail
        go_ret
        exact ⟨rfl, hB9⟩
      · have t1 : (a != b) = true := by rw [bne_iff_ne]; exact hab
        have hB9 := hB4.trans (hBr.mono hB4.size)
        clear hI hsame
        go_wp2_with fail
        go_ret
        exact ⟨rfl, hB9⟩
end Go.Proofs.Ytibhahbimoiaaaa
