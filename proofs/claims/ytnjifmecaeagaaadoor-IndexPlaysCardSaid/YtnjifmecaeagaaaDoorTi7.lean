/-
  Package tile: Rows.
-/
import Derived.Test.YtnjifmecaeagaaaDoorTi6
import Derived.Test.YtnjifmecaeagaaaDoorRegQ
set_option linter.unusedVariables false
set_option linter.unusedSimpArgs false
namespace Go.Proofs.YtnjifmecaeagaaaDoor
open Go.RowKit Go.ChangeShapes Go.WideShapes Go.Deep

/-- a block just made that holds one row -/
theorem eP_new (w : World) (a m : Nat) (t : TypeId) : PKL (w.alloc (.cells #[.int .i64 (a : Nat), .int .i64 (m : Nat)] t)) (.slice (some ⟨w.heap.size, 0, none⟩) 1 1) [(a, m)] := by
  refine ⟨_, _, rfl, fun _ => ⟨w.heap.size, 0, rfl, by simp, by simp, fun i hi j hj => ?_⟩⟩
  have hi0 : i = 0 := by simp at hi; omega
  subst hi0
  have h5 : j = 0 ∨ j = 1 := by omega
  rcases h5 with rfl | rfl <;> simp [go_sem, eP]
def fT (t : List Nat) (k : Nat) : Bool := mayN (t.getD k 0)
theorem rowsT_some {t t1 : List Nat} (h1 : t.all okN = true → t1 = t) (h2 : t.all okN = false → t1 = []) : rowsT t = rowsL (fT t1) t1.length := by
  unfold rowsT
  cases h : t.all okN with
  | true => rw [h1 h, if_pos rfl]; rfl
  | false => rw [h2 h]; rfl
theorem rowsL_no {f : Nat → Bool} {k : Nat} (h : f k = false) : rowsL f (k + 1) = rowsL f k := by rw [rowsL, if_neg (by rw [h]; simp)]
theorem rowsL_first {f : Nat → Bool} {k : Nat} (h : f k = true) (hl : (rowsL f k).length = 0) : rowsL f (k + 1) = rowsL f k ++ [(k, 1)] := by
  rw [rowsL, if_pos h, if_neg (fun q => by omega)]
theorem rowsL_more {f : Nat → Bool} {k q a m : Nat} (h : f k = true) (hl : (rowsL f k).length = q + 1) (hx : (rowsL f k).getD q default = (a, m)) (he : a + m = k) : rowsL f (k + 1) = (rowsL f k).set q (a, m + 1) := by
  rw [rowsL, if_pos h, hl, Nat.add_sub_cancel, hx, if_pos ⟨by omega, he⟩]
theorem rowsL_next {f : Nat → Bool} {k q a m : Nat} (h : f k = true) (hl : (rowsL f k).length = q + 1) (hx : (rowsL f k).getD q default = (a, m)) (he : ¬ a + m = k) : rowsL f (k + 1) = rowsL f k ++ [(k, 1)] := by
  rw [rowsL, if_pos h, hl, Nat.add_sub_cancel, hx, if_neg (fun p => he p.2)]
theorem rowsL_bd {f : Nat → Bool} {k q a m : Nat} (hl : (rowsL f k).length = q + 1) (hx : (rowsL f k).getD q default = (a, m)) : a + m ≤ k := by
  have := ((rows_ok f k).each q (by omega)).top
  rw [hx] at this
  exact this

set_option maxRecDepth 10000 in
set_option maxHeartbeats 2000000 in
theorem rowsT_any (v : Value) (t : List Nat) (w : World) (hw : Lw w) (hv : KL .u64 w v t) (hW : WL t) (hl : t.length ≤ 10000) :
    Calls Tryd.prog 25 #[v] w fun e W' => ∃ v', e = .returned v' ∧ PKO W' w.heap.size v' (rowsT t) ∧ Below w.heap.size w W' := by
  have hCh := chunks_any v t w hw hv hW (by omega)
  obtain ⟨R, hR⟩ : ∃ R, rowsT t = R := ⟨_, rfl⟩
  rw [hR]
  obtain ⟨nn, hnn⟩ : ∃ n, t.length = n := ⟨_, rfl⟩
  obtain ⟨A, cap, rfl, _⟩ := hv.form hnn
  go_enter Tryd.func25, Tryd.ntmps25
  go_wp2_with fail
  refine hCh.mono ?_
  rintro e w1 ⟨hP, hb1⟩
  obtain ⟨v1, bb, t1, rfl, hk1, hok1, _, hl1, q1, q2⟩ := hP.some
  obtain ⟨n, hn⟩ : ∃ n, t1.length = n := ⟨_, rfl⟩
  have hRt : R = rowsL (fT t1) n := by rw [← hR, ← hn]; exact rowsT_some q1 q2
  obtain ⟨A1, c1, rfl, hC⟩ := CKL.form hk1 hn
  replace hRt := Lib.hid hRt
  replace hC := Lib.hid hC
  have hn9 : n ≤ 10000 := by omega
  have hok := Lib.hid (fun k (hk : k < n) => okN_t (all_at hok1 (k := k) (by omega)))
  have hf0 := Lib.hid (fun k => show fT t1 k = mayN (t1.getD k 0) from rfl)
  have hbs1 := hb1.size
  generalize fT t1 = f at *
  clear hCh hP hv hW hR hnn hk1 hok1 q1 q2 hl1 hl
  replace hn := Lib.hid hn
  go_wp2_with fail
  go_loopw [16, 5] (fun i vr wr => ∃ (j : Nat) (l : List (Nat × Nat)), j ≤ n ∧ i = .int .i64 j ∧ l = rowsL f j ∧ PKO wr w1.heap.size vr l ∧ Below w1.heap.size w1 wr) (fun i _ _ => n + 1 - (intOf i).toNat)
  case atStart => exact ⟨0, _, Nat.zero_le _, rfl, rfl, OwnE.nil _ _ _ _ _, Below.refl _ _⟩
  case round =>
    obtain ⟨j, l, hj, rfl, rfl, hown, hB⟩ := hrel
    by_cases hlt : j < n
    · obtain ⟨g, off, rfl, hcap, hg, hg2, c0, c1, c2, c3, c4⟩ := hC.out wr j hB hlt
      have hlt' : (j : Int) < (n : Int) := by omega
      have hx := hok.out j hlt
      have hfj := hf0.out j
      generalize t1.getD j 0 = x at *
      have hA := C5.new wr (kN x : Nat) (cN x : Nat) (lnN x : Nat) (mN x : Nat) (bN x : Nat) 29
      obtain ⟨d0, d1, d2, d3, d4⟩ := hA
      have hB4 := hB.alloc hB.size (.cells #[.int .i64 (kN x : Nat), .int .i64 (cN x : Nat), .int .i64 (lnN x : Nat), .int .i64 (mN x : Nat), .int .u64 (bN x : Nat)] 29)
      have hown4 := hown.alloc (.cells #[.int .i64 (kN x : Nat), .int .i64 (cN x : Nat), .int .i64 (lnN x : Nat), .int .i64 (mN x : Nat), .int .u64 (bN x : Nat)] 29)
      have hEm := empty_any (kN x : Nat) (cN x : Nat) (lnN x : Nat) (mN x : Nat) (bN x : Nat) (wr.alloc (.cells #[.int .i64 (kN x : Nat), .int .i64 (cN x : Nat), .int .i64 (lnN x : Nat), .int .i64 (mN x : Nat), .int .u64 (bN x : Nat)] 29))
      have hform : ∃ A c, u5 = .slice A (rowsL f j).length c := by
        rcases hown.2 with ⟨h, h2⟩ | ⟨g', cap', cur, h, _⟩
        · exact ⟨none, 0, by rw [h, h2]⟩
        · exact ⟨_, _, h⟩
      obtain ⟨Av, cv, rfl⟩ := hform
      obtain ⟨L, hL⟩ : ∃ L, (rowsL f j).length = L := ⟨_, rfl⟩
      have hL9 : L ≤ j := by have := rowsL_len f j; omega
      rw [hL] at hown hown4 ⊢
      cases L with
      | zero =>
        by_cases k0 : kN x = 0
        · have hmay := Lib.hid (show f j = true from by rw [hfj]; unfold mayN; rw [decide_eq_true k0, Bool.true_or])
          have k0' : ((kN x : Nat) : Int) = 0 := by omega
          rw [k0'] at c0 hB4 hown4 d0 d1 d2 d3 d4
          clear hEm hx hfj k0 k0' hown
          go_wp2_with fail
          generalize wr.alloc (.cells #[.int .i64 0, .int .i64 (cN x : Nat), .int .i64 (lnN x : Nat), .int .i64 (mN x : Nat), .int .u64 (bN x : Nat)] 29) = W5 at *
          have hown5 := hown4
          have hB5 := hB4
          clear hown4 hB4 d0 d1 d2 d3 d4 c0 c1 c2 c3 c4
          have hst := Lib.hid (rowsL_first hmay.out hL).symm
          have hL' := Lib.hid hL
          clear hL
          have h8 := trivial
          go_wp2_with fail
          refine wp_region_held_drew (S := (fun w' => Below W5.heap.size W5 w')) (by kernel_rfl) ?_ (fun hHeld => ?_)
          · (try dsimp only)
            (first | assumption | (exact (Below.refl _ _).drew) | exact Below.trans (by assumption) (hb.mono (Below.size (by assumption))))
          refine takeQ 0 ?_
          refine takeQ 1 ?_
          refine takeQ 2 ?_
          refine idleQ 3 ?_
          refine idleQ 4 ?_
          refine idleQ 5 ?_
          refine idleQ 6 ?_
          refine idleQ 7 ?_
          refine idleQ 8 ?_
          refine idleQ 9 ?_
          refine idleQ 10 ?_
          refine idleQ 11 ?_
          refine idleQ 12 ?_
          refine idleQ 13 ?_
          refine idleQ 14 ?_
          refine idleQ 15 ?_
          refine takeQ 16 ?_
          refine wpAnyH_done (by kernel_rfl) ?_ _
          clear hHeld
          generalize hW6 : W5.drew = W6 at *
          have hown6 : PKO W6 w1.heap.size (.slice Av 0 cv) (rowsL f j) := by rw [← hW6]; exact hown5
          have hB6 : Below w1.heap.size w1 W6 := by rw [← hW6]; exact hB5.drew
          have hl9 : (rowsL f j).length ≤ 100000 := by rw [hL'.out]; omega
          clear hown5 hB5
          have hP := eP_new W6 j 1 (46 : Nat)
          obtain ⟨v', w8, hrun, ho8, hg8, _, _⟩ := appE pT (hown6.alloc (.cells #[.int .i64 (j : Nat), .int .i64 ((1 : Nat) : Int)] (46 : Nat))) hP (by have := hB6.size; simp; omega) (by omega) (by simp)
          have hB8 : Below w1.heap.size w1 w8 := (hB6.alloc hB6.size _).trans (grown_below hg8 (by have := hB6.size; simp; omega) (fun k hk => (hown6.lt k hk).1))
          rw [hst.out] at ho8
          have h11 : (((1 : Nat) : Int)) = 1 := rfl
          rw [h11] at hrun
          clear hP hg8 h11 hB6 hown6 h8
          go_wp2_with (at_builtin; refine wpList_append_run rfl _ _ 37 rfl _ _ _ rfl rfl hrun ?_)
          go_roundw
          case rel => exact ⟨j + 1, _, by omega, by go_num, rfl, ho8, hB8⟩
          case measure => first | (simp [intOf]; done) | (simp [intOf]; omega)
        · have f0 : (((kN x : Nat) : Int) != 0) = true := by rw [bne_iff_ne]; omega
          have f0' : ¬ ((kN x : Nat) : Int) = 0 := by omega
          by_cases ke : kN x = 1 ∧ bN x = 0
          · have hmay := Lib.hid (show f j = true from by rw [hfj]; unfold mayN; rw [decide_eq_true ke, Bool.or_true])
            rw [decide_eq_true (show ((kN x : Nat) : Int) = 1 ∧ ((bN x : Nat) : Int) = 0 by omega)] at hEm
            clear hx hfj ke hown k0
            go_wp2_with fail
            refine hEm.mono ?_
            rintro e W5 ⟨rfl, hb5⟩
            have hown5 := hown4.keep hb5
            have hB5 := hB4.trans (hb5.mono hB4.size)
            clear hown4 hB4 d0 d1 d2 d3 d4 c0 c1 c2 c3 c4 hEm hb5
            go_wp2_with fail
            have hst := Lib.hid (rowsL_first hmay.out hL).symm
            have hL' := Lib.hid hL
            clear hL
            have h8 := trivial
            go_wp2_with fail
            refine wp_region_held_drew (S := (fun w' => Below W5.heap.size W5 w')) (by kernel_rfl) ?_ (fun hHeld => ?_)
            · (try dsimp only)
              (first | assumption | (exact (Below.refl _ _).drew) | exact Below.trans (by assumption) (hb.mono (Below.size (by assumption))))
            refine takeQ 0 ?_
            refine takeQ 1 ?_
            refine takeQ 2 ?_
            refine idleQ 3 ?_
            refine idleQ 4 ?_
            refine idleQ 5 ?_
            refine idleQ 6 ?_
            refine idleQ 7 ?_
            refine idleQ 8 ?_
            refine idleQ 9 ?_
            refine idleQ 10 ?_
            refine idleQ 11 ?_
            refine idleQ 12 ?_
            refine idleQ 13 ?_
            refine idleQ 14 ?_
            refine idleQ 15 ?_
            refine takeQ 16 ?_
            refine wpAnyH_done (by kernel_rfl) ?_ _
            clear hHeld
            generalize hW6 : W5.drew = W6 at *
            have hown6 : PKO W6 w1.heap.size (.slice Av 0 cv) (rowsL f j) := by rw [← hW6]; exact hown5
            have hB6 : Below w1.heap.size w1 W6 := by rw [← hW6]; exact hB5.drew
            have hl9 : (rowsL f j).length ≤ 100000 := by rw [hL'.out]; omega
            clear hown5 hB5
            have hP := eP_new W6 j 1 (46 : Nat)
            obtain ⟨v', w8, hrun, ho8, hg8, _, _⟩ := appE pT (hown6.alloc (.cells #[.int .i64 (j : Nat), .int .i64 ((1 : Nat) : Int)] (46 : Nat))) hP (by have := hB6.size; simp; omega) (by omega) (by simp)
            have hB8 : Below w1.heap.size w1 w8 := (hB6.alloc hB6.size _).trans (grown_below hg8 (by have := hB6.size; simp; omega) (fun k hk => (hown6.lt k hk).1))
            rw [hst.out] at ho8
            have h11 : (((1 : Nat) : Int)) = 1 := rfl
            rw [h11] at hrun
            clear hP hg8 h11 hB6 hown6 h8
            go_wp2_with (at_builtin; refine wpList_append_run rfl _ _ 37 rfl _ _ _ rfl rfl hrun ?_)
            go_roundw
            case rel => exact ⟨j + 1, _, by omega, by go_num, rfl, ho8, hB8⟩
            case measure => first | (simp [intOf]; done) | (simp [intOf]; omega)
          · have hno := Lib.hid (rowsL_no (f := f) (k := j) (by rw [hfj]; unfold mayN; rw [decide_eq_false k0, decide_eq_false ke]; rfl)).symm
            rw [decide_eq_false (show ¬ (((kN x : Nat) : Int) = 1 ∧ ((bN x : Nat) : Int) = 0) by omega)] at hEm
            clear hx hfj ke hown k0
            go_wp2_with fail
            refine hEm.mono ?_
            rintro e W5 ⟨rfl, hb5⟩
            have hown5 := hown4.keep hb5
            have hB5 := hB4.trans (hb5.mono hB4.size)
            clear hown4 hB4 d0 d1 d2 d3 d4 c0 c1 c2 c3 c4 hEm hb5
            go_wp2_with fail
            go_roundw
            case rel => exact ⟨j + 1, _, by omega, by go_num, hno.out, hown5, hB5⟩
            case measure => first | (simp [intOf]; done) | (simp [intOf]; omega)
      | succ q =>
        by_cases k0 : kN x = 0
        · have hmay := Lib.hid (show f j = true from by rw [hfj]; unfold mayN; rw [decide_eq_true k0, Bool.true_or])
          have k0' : ((kN x : Nat) : Int) = 0 := by omega
          rw [k0'] at c0 hB4 hown4 d0 d1 d2 d3 d4
          clear hEm hx hfj k0 k0' hown
          go_wp2_with fail
          generalize wr.alloc (.cells #[.int .i64 0, .int .i64 (cN x : Nat), .int .i64 (lnN x : Nat), .int .i64 (mN x : Nat), .int .u64 (bN x : Nat)] 29) = W5 at *
          have hown5 := hown4
          have hB5 := hB4
          clear hown4 hB4 d0 d1 d2 d3 d4 c0 c1 c2 c3 c4
          obtain ⟨gR, cR, hv, hg1, hg2, hg3⟩ := hown5.form (by omega)
          simp only [Value.slice.injEq] at hv
          obtain ⟨rfl, -, rfl⟩ := hv
          obtain ⟨⟨a, m⟩, hx⟩ : ∃ y : Nat × Nat, (rowsL f j).getD q default = y := ⟨_, rfl⟩
          have hbd := rowsL_bd hL hx
          have r0 := OwnE.cell eP_len hown5 hL (i := q) (j := 0) (by omega) (by omega)
          have r1 := OwnE.cell eP_len hown5 hL (i := q) (j := 1) (by omega) (by omega)
          rw [hx] at r0 r1
          obtain ⟨r0, _⟩ := r0
          obtain ⟨r1, z1⟩ := r1
          simp only [eP, Nat.add_zero, List.getElem?_cons_zero, List.getElem?_cons_succ] at r0 r1
          have g1 : IntKind.i64.wrap ((a : Int) + (m : Int)) = (a : Int) + (m : Int) := by rw [IntKind.wrap_i64]; omega
          have g2 : q < q + 1 := by omega
          have g5 : (q : Int) < (q : Int) + 1 := by omega
          have g6 : IntKind.i64.wrap (j : Int) = (j : Int) := by rw [IntKind.wrap_i64]; omega
          by_cases he : a + m = j
          · have hst := Lib.hid (rowsL_more hmay.out hL hx he).symm
            have he' : (((a : Int) + (m : Int)) == (j : Int)) = true := by rw [beq_iff_eq]; omega
            have he2 : (a : Int) + (m : Int) = (j : Int) := by omega
            have hset := OwnE.set (x' := (a, m + 1)) (u := .int .i64 ((m + 1 : Nat) : Int)) eP_len hown5 hL (i := q) (j := 1) (by omega) (by omega) (by rw [hx]; rfl)
            rw [hst.out] at hset
            have hB8 : Below w1.heap.size w1 (W5.setCell ⟨gR, q * 2 + 1, none⟩ (.int .i64 ((m + 1 : Nat) : Int))) := hB5.setCell hg1 _
            have g3 : IntKind.i64.wrap ((m : Int) + 1) = ((m + 1 : Nat) : Int) := by rw [IntKind.wrap_i64]; omega
            have g4 : (((m + 1 : Nat) : Int)) = (m : Int) + 1 := by omega
            rw [g4] at hset hB8 g3
            have hL' := Lib.hid hL
            clear hL hx g4
            go_wp2_with fail
            refine wp_region_held_drew (S := (fun w' => (w'.cell? ⟨gR, q * 2, none⟩ = some (.int .i64 (a : Nat)) ∧ w'.cell? ⟨gR, q * 2 + 1, none⟩ = some (.int .i64 (m : Nat))) ∧ Below W5.heap.size W5 w')) (by kernel_rfl) ?_ (fun hHeld => ?_)
            · (try dsimp only)
              (first | assumption | (exact ⟨⟨r0, r1⟩, (Below.refl _ _).drew⟩) | ((try go_split_ands); exact ⟨⟨cellK5 (by assumption) hb, cellK5 (by assumption) hb⟩, Below.trans (by assumption) (hb.mono (Below.size (by assumption)))⟩))
            refine takeQ 0 ?_
            refine takeQ 1 ?_
            refine takeQ 2 ?_
            refine takeQ 3 ?_
            refine takeQ 4 ?_
            refine takeQ 5 ?_
            refine takeQ 6 ?_
            refine takeQ 7 ?_
            refine takeQ 8 ?_
            refine takeQ 9 ?_
            refine takeQ 10 ?_
            refine takeQ 11 ?_
            refine takeQ 12 ?_
            refine takeQ 13 ?_
            refine takeQ 14 ?_
            refine takeQ 15 ?_
            refine takeQ 16 ?_
            refine wpAnyH_done (by kernel_rfl) ?_ _
            clear hHeld
            go_wp2_with fail
            go_roundw
            case rel => exact ⟨j + 1, _, by omega, by go_num, rfl, hset.drew, hB8.drew⟩
            case measure => first | (simp [intOf]; done) | (simp [intOf]; omega)
          · have hst := Lib.hid (rowsL_next hmay.out hL hx he).symm
            have he' : (((a : Int) + (m : Int)) == (j : Int)) = false := by rw [beq_eq_false_iff_ne]; omega
            have he2 : ¬ (a : Int) + (m : Int) = (j : Int) := by omega
            have hL' := Lib.hid hL
            have h8 := trivial
            clear hL hx
            go_wp2_with fail
            refine wp_region_held_drew (S := (fun w' => (w'.cell? ⟨gR, q * 2, none⟩ = some (.int .i64 (a : Nat)) ∧ w'.cell? ⟨gR, q * 2 + 1, none⟩ = some (.int .i64 (m : Nat))) ∧ Below W5.heap.size W5 w')) (by kernel_rfl) ?_ (fun hHeld => ?_)
            · (try dsimp only)
              (first | assumption | (exact ⟨⟨r0, r1⟩, (Below.refl _ _).drew⟩) | ((try go_split_ands); exact ⟨⟨cellK5 (by assumption) hb, cellK5 (by assumption) hb⟩, Below.trans (by assumption) (hb.mono (Below.size (by assumption)))⟩))
            refine takeQ 0 ?_
            refine takeQ 1 ?_
            refine takeQ 2 ?_
            refine takeQ 3 ?_
            refine takeQ 4 ?_
            refine takeQ 5 ?_
            refine takeQ 6 ?_
            refine takeQ 7 ?_
            refine takeQ 8 ?_
            refine takeQ 9 ?_
            refine takeQ 10 ?_
            refine takeQ 11 ?_
            refine takeQ 12 ?_
            refine takeQ 13 ?_
            refine takeQ 14 ?_
            refine takeQ 15 ?_
            refine takeQ 16 ?_
            refine wpAnyH_done (by kernel_rfl) ?_ _
            clear hHeld
            generalize hW6 : W5.drew = W6 at *
            have hown6 : PKO W6 w1.heap.size (.slice (some ⟨gR, 0, none⟩) (q + 1) cv) (rowsL f j) := by rw [← hW6]; exact hown5
            have hB6 : Below w1.heap.size w1 W6 := by rw [← hW6]; exact hB5.drew
            have hl9 : (rowsL f j).length ≤ 100000 := by rw [hL'.out]; omega
            clear hown5 hB5
            have hP := eP_new W6 j 1 (46 : Nat)
            obtain ⟨v', w8, hrun, ho8, hg8, _, _⟩ := appE pT (hown6.alloc (.cells #[.int .i64 (j : Nat), .int .i64 ((1 : Nat) : Int)] (46 : Nat))) hP (by have := hB6.size; simp; omega) (by omega) (by simp)
            have hB8 : Below w1.heap.size w1 w8 := (hB6.alloc hB6.size _).trans (grown_below hg8 (by have := hB6.size; simp; omega) (fun k hk => (hown6.lt k hk).1))
            rw [hst.out] at ho8
            have h11 : (((1 : Nat) : Int)) = 1 := rfl
            rw [h11] at hrun
            clear hP hg8 h11 hB6 hown6 h8
            go_wp2_with (at_builtin; refine wpList_append_run rfl _ _ 37 rfl _ _ _ rfl rfl hrun ?_)
            go_roundw
            case rel => exact ⟨j + 1, _, by omega, by go_num, rfl, ho8, hB8⟩
            case measure => first | (simp [intOf]; done) | (simp [intOf]; omega)
        · have f0 : (((kN x : Nat) : Int) != 0) = true := by rw [bne_iff_ne]; omega
          have f0' : ¬ ((kN x : Nat) : Int) = 0 := by omega
          by_cases ke : kN x = 1 ∧ bN x = 0
          · have hmay := Lib.hid (show f j = true from by rw [hfj]; unfold mayN; rw [decide_eq_true ke, Bool.or_true])
            rw [decide_eq_true (show ((kN x : Nat) : Int) = 1 ∧ ((bN x : Nat) : Int) = 0 by omega)] at hEm
            clear hx hfj ke hown k0
            go_wp2_with fail
            refine hEm.mono ?_
            rintro e W5 ⟨rfl, hb5⟩
            have hown5 := hown4.keep hb5
            have hB5 := hB4.trans (hb5.mono hB4.size)
            clear hown4 hB4 d0 d1 d2 d3 d4 c0 c1 c2 c3 c4 hEm hb5
            go_wp2_with fail
            obtain ⟨gR, cR, hv, hg1, hg2, hg3⟩ := hown5.form (by omega)
            simp only [Value.slice.injEq] at hv
            obtain ⟨rfl, -, rfl⟩ := hv
            obtain ⟨⟨a, m⟩, hx⟩ : ∃ y : Nat × Nat, (rowsL f j).getD q default = y := ⟨_, rfl⟩
            have hbd := rowsL_bd hL hx
            have r0 := OwnE.cell eP_len hown5 hL (i := q) (j := 0) (by omega) (by omega)
            have r1 := OwnE.cell eP_len hown5 hL (i := q) (j := 1) (by omega) (by omega)
            rw [hx] at r0 r1
            obtain ⟨r0, _⟩ := r0
            obtain ⟨r1, z1⟩ := r1
            simp only [eP, Nat.add_zero, List.getElem?_cons_zero, List.getElem?_cons_succ] at r0 r1
            have g1 : IntKind.i64.wrap ((a : Int) + (m : Int)) = (a : Int) + (m : Int) := by rw [IntKind.wrap_i64]; omega
            have g2 : q < q + 1 := by omega
            have g5 : (q : Int) < (q : Int) + 1 := by omega
            have g6 : IntKind.i64.wrap (j : Int) = (j : Int) := by rw [IntKind.wrap_i64]; omega
            by_cases he : a + m = j
            · have hst := Lib.hid (rowsL_more hmay.out hL hx he).symm
              have he' : (((a : Int) + (m : Int)) == (j : Int)) = true := by rw [beq_iff_eq]; omega
              have he2 : (a : Int) + (m : Int) = (j : Int) := by omega
              have hset := OwnE.set (x' := (a, m + 1)) (u := .int .i64 ((m + 1 : Nat) : Int)) eP_len hown5 hL (i := q) (j := 1) (by omega) (by omega) (by rw [hx]; rfl)
              rw [hst.out] at hset
              have hB8 : Below w1.heap.size w1 (W5.setCell ⟨gR, q * 2 + 1, none⟩ (.int .i64 ((m + 1 : Nat) : Int))) := hB5.setCell hg1 _
              have g3 : IntKind.i64.wrap ((m : Int) + 1) = ((m + 1 : Nat) : Int) := by rw [IntKind.wrap_i64]; omega
              have g4 : (((m + 1 : Nat) : Int)) = (m : Int) + 1 := by omega
              rw [g4] at hset hB8 g3
              have hL' := Lib.hid hL
              clear hL hx g4
              go_wp2_with fail
              refine wp_region_held_drew (S := (fun w' => (w'.cell? ⟨gR, q * 2, none⟩ = some (.int .i64 (a : Nat)) ∧ w'.cell? ⟨gR, q * 2 + 1, none⟩ = some (.int .i64 (m : Nat))) ∧ Below W5.heap.size W5 w')) (by kernel_rfl) ?_ (fun hHeld => ?_)
              · (try dsimp only)
                (first | assumption | (exact ⟨⟨r0, r1⟩, (Below.refl _ _).drew⟩) | ((try go_split_ands); exact ⟨⟨cellK5 (by assumption) hb, cellK5 (by assumption) hb⟩, Below.trans (by assumption) (hb.mono (Below.size (by assumption)))⟩))
              refine takeQ 0 ?_
              refine takeQ 1 ?_
              refine takeQ 2 ?_
              refine takeQ 3 ?_
              refine takeQ 4 ?_
              refine takeQ 5 ?_
              refine takeQ 6 ?_
              refine takeQ 7 ?_
              refine takeQ 8 ?_
              refine takeQ 9 ?_
              refine takeQ 10 ?_
              refine takeQ 11 ?_
              refine takeQ 12 ?_
              refine takeQ 13 ?_
              refine takeQ 14 ?_
              refine takeQ 15 ?_
              refine takeQ 16 ?_
              refine wpAnyH_done (by kernel_rfl) ?_ _
              clear hHeld
              go_wp2_with fail
              go_roundw
              case rel => exact ⟨j + 1, _, by omega, by go_num, rfl, hset.drew, hB8.drew⟩
              case measure => first | (simp [intOf]; done) | (simp [intOf]; omega)
            · have hst := Lib.hid (rowsL_next hmay.out hL hx he).symm
              have he' : (((a : Int) + (m : Int)) == (j : Int)) = false := by rw [beq_eq_false_iff_ne]; omega
              have he2 : ¬ (a : Int) + (m : Int) = (j : Int) := by omega
              have hL' := Lib.hid hL
              have h8 := trivial
              clear hL hx
              go_wp2_with fail
              refine wp_region_held_drew (S := (fun w' => (w'.cell? ⟨gR, q * 2, none⟩ = some (.int .i64 (a : Nat)) ∧ w'.cell? ⟨gR, q * 2 + 1, none⟩ = some (.int .i64 (m : Nat))) ∧ Below W5.heap.size W5 w')) (by kernel_rfl) ?_ (fun hHeld => ?_)
              · (try dsimp only)
                (first | assumption | (exact ⟨⟨r0, r1⟩, (Below.refl _ _).drew⟩) | ((try go_split_ands); exact ⟨⟨cellK5 (by assumption) hb, cellK5 (by assumption) hb⟩, Below.trans (by assumption) (hb.mono (Below.size (by assumption)))⟩))
              refine takeQ 0 ?_
              refine takeQ 1 ?_
              refine takeQ 2 ?_
              refine takeQ 3 ?_
              refine takeQ 4 ?_
              refine takeQ 5 ?_
              refine takeQ 6 ?_
              refine takeQ 7 ?_
              refine takeQ 8 ?_
              refine takeQ 9 ?_
              refine takeQ 10 ?_
              refine takeQ 11 ?_
              refine takeQ 12 ?_
              refine takeQ 13 ?_
              refine takeQ 14 ?_
              refine takeQ 15 ?_
              refine takeQ 16 ?_
              refine wpAnyH_done (by kernel_rfl) ?_ _
              clear hHeld
              generalize hW6 : W5.drew = W6 at *
              have hown6 : PKO W6 w1.heap.size (.slice (some ⟨gR, 0, none⟩) (q + 1) cv) (rowsL f j) := by rw [← hW6]; exact hown5
              have hB6 : Below w1.heap.size w1 W6 := by rw [← hW6]; exact hB5.drew
              have hl9 : (rowsL f j).length ≤ 100000 := by rw [hL'.out]; omega
              clear hown5 hB5
              have hP := eP_new W6 j 1 (46 : Nat)
              obtain ⟨v', w8, hrun, ho8, hg8, _, _⟩ := appE pT (hown6.alloc (.cells #[.int .i64 (j : Nat), .int .i64 ((1 : Nat) : Int)] (46 : Nat))) hP (by have := hB6.size; simp; omega) (by omega) (by simp)
              have hB8 : Below w1.heap.size w1 w8 := (hB6.alloc hB6.size _).trans (grown_below hg8 (by have := hB6.size; simp; omega) (fun k hk => (hown6.lt k hk).1))
              rw [hst.out] at ho8
              have h11 : (((1 : Nat) : Int)) = 1 := rfl
              rw [h11] at hrun
              clear hP hg8 h11 hB6 hown6 h8
              go_wp2_with (at_builtin; refine wpList_append_run rfl _ _ 37 rfl _ _ _ rfl rfl hrun ?_)
              go_roundw
              case rel => exact ⟨j + 1, _, by omega, by go_num, rfl, ho8, hB8⟩
              case measure => first | (simp [intOf]; done) | (simp [intOf]; omega)
          · have hno := Lib.hid (rowsL_no (f := f) (k := j) (by rw [hfj]; unfold mayN; rw [decide_eq_false k0, decide_eq_false ke]; rfl)).symm
            rw [decide_eq_false (show ¬ (((kN x : Nat) : Int) = 1 ∧ ((bN x : Nat) : Int) = 0) by omega)] at hEm
            clear hx hfj ke hown k0
            go_wp2_with fail
            refine hEm.mono ?_
            rintro e W5 ⟨rfl, hb5⟩
            have hown5 := hown4.keep hb5
            have hB5 := hB4.trans (hb5.mono hB4.size)
            clear hown4 hB4 d0 d1 d2 d3 d4 c0 c1 c2 c3 c4 hEm hb5
            go_wp2_with fail
            go_roundw
            case rel => exact ⟨j + 1, _, by omega, by go_num, hno.out, hown5, hB5⟩
            case measure => first | (simp [intOf]; done) | (simp [intOf]; omega)
    · obtain rfl : j = n := by omega
      have hE := Lib.hid hRt.out.symm
      go_wp2_with fail
      go_ret
      exact ⟨_, rfl, by rw [← hE.out]; exact hown.mono hbs1, hb1.trans (hB.mono hbs1)⟩
end Go.Proofs.YtnjifmecaeagaaaDoor
