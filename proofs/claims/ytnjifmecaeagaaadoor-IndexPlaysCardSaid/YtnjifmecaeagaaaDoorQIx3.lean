/-
  Package index: the bit of a place.
-/
import Derived.Test.YtnjifmecaeagaaaDoorQN
import Derived.Test.YtnjifmecaeagaaaDoorRegQ
set_option linter.unusedVariables false
set_option linter.unusedSimpArgs false
namespace Go.Proofs.YtnjifmecaeagaaaDoor
open Go.RowKit Go.ChangeShapes Go.WideShapes Go.Deep
theorem wrap_pow (q : Nat) (h : q < 64) : IntKind.u64.wrap ((2 : Int) ^ q) = ((2 ^ q : Nat) : Int) := by
  have e : ((2 : Int) ^ q) = ((2 ^ q : Nat) : Int) := by simp
  have h2 : 2 ^ q < 18446744073709551616 := Nat.pow_lt_pow_right (n := 64) (by decide : 1 < 2) h
  rw [e, IntKind.wrap_u64]
  generalize 2 ^ q = Y at h2 ⊢
  omega

theorem SKL.form {w : World} {v : Value} {l : List St} {n : Nat} (h : EL 7 eS w v l) (hn : l.length = n) : ∃ A cap, v = .slice A n cap ∧
    ∀ w1 i, Below w.heap.size w w1 → i < n → ∃ g off, A = some ⟨g, off, none⟩ ∧ n ≤ cap ∧ g < w.heap.size ∧ g < w1.heap.size ∧ w1.cell? ⟨g, off + i * 7, none⟩ = some (.int .i64 (kN (gS l i).1 : Nat)) ∧ w1.cell? ⟨g, off + i * 7 + 1, none⟩ = some (.int .i64 (cN (gS l i).1 : Nat)) ∧ w1.cell? ⟨g, off + i * 7 + 2, none⟩ = some (.int .i64 (lnN (gS l i).1 : Nat)) ∧ w1.cell? ⟨g, off + i * 7 + 3, none⟩ = some (.int .i64 (mN (gS l i).1 : Nat)) ∧ w1.cell? ⟨g, off + i * 7 + 4, none⟩ = some (.int .u64 (bN (gS l i).1 : Nat)) ∧ w1.cell? ⟨g, off + i * 7 + 5, none⟩ = some (.int .u64 ((gS l i).2.1 : Nat)) ∧ w1.cell? ⟨g, off + i * 7 + 6, none⟩ = some (.int .u64 ((gS l i).2.2 : Nat)) := by
  obtain ⟨A, cap, hv, h⟩ := EL.form h hn
  refine ⟨A, cap, hv, fun w1 i hb hi => ?_⟩
  obtain ⟨g, off, hA, h1, h2, h3, hc⟩ := h w1 i hb hi
  exact ⟨g, off, hA, h1, h2, h3, hc 0 (by omega), hc 1 (by omega), hc 2 (by omega), hc 3 (by omega), hc 4 (by omega), hc 5 (by omega), hc 6 (by omega)⟩
set_option maxRecDepth 10000 in
set_option maxHeartbeats 1000000 in
theorem bit_out {w : World} {base B : Nat} {v : Value} {S : List St} (hI : IxAt w base B v S) (ch ix cl mn : Int) (fr : Bool) (h : ¬ (0 ≤ ch ∧ ch < S.length)) :
    Calls Tryd.prog 78 #[.pointer (some ⟨B, 0, none⟩), .agg #[.int .i64 ch, .int .i64 ix, .int .i64 cl, .int .i64 mn, .bool fr]] w fun e w' => e = .returned (.int .u64 0) ∧ Below w.heap.size w w' := by
  have hA := (Below.refl w.heap.size w).alloc (Nat.le_refl _) (.cells #[.int .i64 ch, .int .i64 ix, .int .i64 cl, .int .i64 mn, .bool fr] 62)
  have xB := (hI.keep hA).box.cell
  obtain ⟨nn, hnn⟩ : ∃ n, S.length = n := ⟨_, rfl⟩
  obtain ⟨A, cap, rfl, _⟩ := SKL.form (hI.row.el eS_len) hnn
  obtain ⟨C, hC⟩ : ∃ C, w.heap.size = C := ⟨_, rfl⟩
  rw [hnn] at h
  have p0 : (w.alloc (.cells #[.int .i64 ch, .int .i64 ix, .int .i64 cl, .int .i64 mn, .bool fr] 62)).cell? ⟨C, 0, none⟩ = some (.int .i64 ch) := by rw [← hC]; simp [go_sem]
  rw [hC] at hA ⊢
  clear hI hnn
  by_cases h0 : ch < 0
  · go_enter Tryd.func78, Tryd.ntmps78
    go_wp2_with fail
    (try simp only [hC])
    generalize w.alloc (.cells #[.int .i64 ch, .int .i64 ix, .int .i64 cl, .int .i64 mn, .bool fr] 62) = W1 at *
    clear hC h
    refine wp_region_held_drew (S := (fun w' => w' = W1.drew)) (by kernel_rfl) ?_ (fun hHeld => ?_)
    · (try dsimp only)
      all_goals rfl
    refine takeU 0 ?_
    refine takeU 1 ?_
    refine takeU 2 ?_
    refine takeU 3 ?_
    refine idleQ 4 ?_
    refine idleQ 5 ?_
    refine idleQ 6 ?_
    refine idleQ 7 ?_
    refine idleQ 8 ?_
    refine idleQ 9 ?_
    refine idleQ 10 ?_
    refine idleQ 11 ?_
    refine takeU 12 ?_
    refine wpAnyH_done (by kernel_rfl) ?_ _
    go_wp2_with fail
    go_ret
    exact ⟨rfl, hA.drew⟩
  · have h1 : (nn : Int) ≤ ch := by omega
    have d0 : decide (ch < 0) = false := decide_eq_false h0
    have d1 : decide ((nn : Int) ≤ ch) = true := decide_eq_true h1
    go_enter Tryd.func78, Tryd.ntmps78
    go_wp2_with fail
    (try simp only [hC])
    generalize w.alloc (.cells #[.int .i64 ch, .int .i64 ix, .int .i64 cl, .int .i64 mn, .bool fr] 62) = W1 at *
    clear hC h
    refine wp_region_held_drew (S := (fun w' => w' = W1.drew)) (by kernel_rfl) ?_ (fun hHeld => ?_)
    · (try dsimp only)
      all_goals rfl
    refine takeU 0 ?_
    refine takeU 1 ?_
    refine takeU 2 ?_
    refine takeU 3 ?_
    refine takeU 4 ?_
    refine takeU 5 ?_
    refine takeU 6 ?_
    refine takeU 7 ?_
    refine takeU 8 ?_
    refine takeU 9 ?_
    refine takeU 10 ?_
    refine takeU 11 ?_
    refine takeU 12 ?_
    refine wpAnyH_done (by kernel_rfl) ?_ _
    go_wp2_with fail
    go_ret
    exact ⟨rfl, hA.drew⟩
set_option maxRecDepth 10000 in
set_option maxHeartbeats 1000000 in
theorem bit_in {w : World} {base B : Nat} {v : Value} {S : List St} (hI : IxAt w base B v S) (i : Nat) (ix cl mn : Int) (fr : Bool) (h : i < S.length) (hl : S.length ≤ 10000) (hw : Lw w) :
    Calls Tryd.prog 78 #[.pointer (some ⟨B, 0, none⟩), .agg #[.int .i64 (i : Nat), .int .i64 ix, .int .i64 cl, .int .i64 mn, .bool fr]] w fun e w' => e = .returned (.int .u64 (bitS S (i : Nat) ix cl mn : Nat)) ∧ Below w.heap.size w w' := by
  have hA := (Below.refl w.heap.size w).alloc (Nat.le_refl _) (.cells #[.int .i64 (i : Nat), .int .i64 ix, .int .i64 cl, .int .i64 mn, .bool fr] 62)
  have xB := (hI.keep hA).box.cell
  obtain ⟨nn, hnn⟩ : ∃ n, S.length = n := ⟨_, rfl⟩
  obtain ⟨A, cap, rfl, hD⟩ := SKL.form (hI.row.el eS_len) hnn
  obtain ⟨g, off, rfl, hcap, hg0, hg, x0, x1, x2, x3, x4, x5, x6⟩ := hD _ i hA (by omega)
  have hBS : bitS S (i : Nat) ix cl mn = (if kN (gS S i).1 = 1 ∧ cl = (cN (gS S i).1 : Nat) ∧ 0 ≤ ix ∧ ix < (mnN (cN (gS S i).1) : Nat) then 2 ^ ix.toNat else if kN (gS S i).1 = 2 ∧ cl = -1 ∧ ix = 0 ∧ mn = (mN (gS S i).1 : Nat) then 1 else 0) := by
    unfold bitS
    rw [if_pos ⟨by omega, by omega⟩, Int.toNat_natCast]
  generalize gS S i = s at *
  generalize hr : bitS S (i : Nat) ix cl mn = r at *
  clear hr
  obtain ⟨x, lv, tk⟩ := s
  simp only [] at hBS x0 x1 x2 x3 x4 x5 x6
  obtain ⟨C, hC⟩ : ∃ C, w.heap.size = C := ⟨_, rfl⟩
  obtain ⟨p0, p1, p2, p3⟩ : (w.alloc (.cells #[.int .i64 (i : Nat), .int .i64 ix, .int .i64 cl, .int .i64 mn, .bool fr] 62)).cell? ⟨C, 0, none⟩ = some (.int .i64 ((i : Nat) : Int)) ∧ (w.alloc (.cells #[.int .i64 (i : Nat), .int .i64 ix, .int .i64 cl, .int .i64 mn, .bool fr] 62)).cell? ⟨C, 1, none⟩ = some (.int .i64 ix) ∧ (w.alloc (.cells #[.int .i64 (i : Nat), .int .i64 ix, .int .i64 cl, .int .i64 mn, .bool fr] 62)).cell? ⟨C, 2, none⟩ = some (.int .i64 cl) ∧ (w.alloc (.cells #[.int .i64 (i : Nat), .int .i64 ix, .int .i64 cl, .int .i64 mn, .bool fr] 62)).cell? ⟨C, 3, none⟩ = some (.int .i64 mn) := by
    rw [← hC]; refine ⟨?_, ?_, ?_, ?_⟩ <;> simp [go_sem]
  have hwA := Lib.hid (hw.keep hA)
  have h' : i < nn := by omega
  have h1 : decide (((i : Nat) : Int) < 0) = false := decide_eq_false (by omega)
  have h3 : decide ((nn : Int) ≤ ((i : Nat) : Int)) = false := decide_eq_false (by omega)
  have h4 : decide (nn ≤ i) = false := decide_eq_false (by omega)
  have h2 : ((i : Nat) : Int) < (nn : Int) := by omega
  have hn9 : nn ≤ 10000 := by omega
  have hCs := hA.size
  rw [hC] at hCs
  rw [hC] at hA ⊢
  clear hI hD hw h hl hg0
  replace hnn := Lib.hid hnn
  replace hBS := Lib.hid hBS
  go_enter Tryd.func78, Tryd.ntmps78
  go_wp2_with fail
  (try simp only [hC])
  generalize w.alloc (.cells #[.int .i64 (i : Nat), .int .i64 ix, .int .i64 cl, .int .i64 mn, .bool fr] 62) = W1 at *
  clear hC
  refine wp_region_held_drew (S := (fun w' => w' = W1.drew)) (by kernel_rfl) ?_ (fun hHeld => ?_)
  · (try dsimp only)
    all_goals rfl
  refine takeU 0 ?_
  refine takeU 1 ?_
  refine takeU 2 ?_
  refine takeU 3 ?_
  refine takeU 4 ?_
  refine takeU 5 ?_
  refine takeU 6 ?_
  refine takeU 7 ?_
  refine takeU 8 ?_
  refine takeU 9 ?_
  refine takeU 10 ?_
  refine takeU 11 ?_
  refine takeU 12 ?_
  refine wpAnyH_done (by kernel_rfl) ?_ _
  go_wp2_with fail
  refine wp_region_tail (S := (fun w' => w'.cell? ⟨B, 0, none⟩ = some (.slice (some ⟨g, off, none⟩) nn cap) ∧ w'.cell? ⟨C, 0, none⟩ = some (.int .i64 ((i : Nat) : Int)) ∧ w'.cell? ⟨g, off + i * 7, none⟩ = some (.int .i64 (kN x : Nat)) ∧ w'.cell? ⟨g, off + i * 7 + 1, none⟩ = some (.int .i64 (cN x : Nat)) ∧ w'.cell? ⟨g, off + i * 7 + 2, none⟩ = some (.int .i64 (lnN x : Nat)) ∧ w'.cell? ⟨g, off + i * 7 + 3, none⟩ = some (.int .i64 (mN x : Nat)) ∧ w'.cell? ⟨g, off + i * 7 + 4, none⟩ = some (.int .u64 (bN x : Nat)) ∧ w'.cell? ⟨g, off + i * 7 + 5, none⟩ = some (.int .u64 (lv : Nat)) ∧ w'.cell? ⟨g, off + i * 7 + 6, none⟩ = some (.int .u64 (tk : Nat)))) (n := 9) (by kernel_rfl) ?_ (fun hHeld hInv => ?_) (by decide)
  · (try dsimp only)
    (first | assumption | (exact ⟨xB, p0, x0, x1, x2, x3, x4, x5, x6⟩) | ((try go_split_ands); exact ⟨cellK5 (by assumption) hb, cellK5 (by assumption) hb, cellK5 (by assumption) hb, cellK5 (by assumption) hb, cellK5 (by assumption) hb, cellK5 (by assumption) hb, cellK5 (by assumption) hb, cellK5 (by assumption) hb, cellK5 (by assumption) hb⟩))
  refine takeVS 0 hInv ?_; clear hInv; intro hInv
  refine takeVS 1 hInv ?_; clear hInv; intro hInv
  refine takeVS 2 hInv ?_; clear hInv; intro hInv
  refine takeVS 3 hInv ?_; clear hInv; intro hInv
  refine takeVS 4 hInv ?_; clear hInv; intro hInv
  refine takeVS 5 hInv ?_; clear hInv; intro hInv
  refine takeVS 6 hInv ?_; clear hInv; intro hInv
  refine takeVS 7 hInv ?_; clear hInv; intro hInv
  refine oneS 8 hInv (by decide) rfl (by kernel_rfl) (fun K hK => ?_)
  go_simp
  have hb := (Below.refl W1.drew.drew.heap.size W1.drew.drew).alloc (Nat.le_refl _) (.cells #[.int .i64 0, .int .i64 0, .int .i64 0, .int .i64 0, .int .u64 0, .int .u64 0, .int .u64 0] 99)
  refine hK.out _ _ ?_ (fun hHeld2 hInv2 => ?_)
  · (try dsimp only)
    (first | assumption | (exact ⟨xB, p0, x0, x1, x2, x3, x4, x5, x6⟩) | ((try go_split_ands); exact ⟨cellK5 (by assumption) hb, cellK5 (by assumption) hb, cellK5 (by assumption) hb, cellK5 (by assumption) hb, cellK5 (by assumption) hb, cellK5 (by assumption) hb, cellK5 (by assumption) hb, cellK5 (by assumption) hb, cellK5 (by assumption) hb⟩))
  clear hK K hHeld hInv
  have hHeld := hHeld2
  have hInv := hInv2
  clear hHeld2 hInv2
  try simp only [Act.put, List.setIfInBounds_toArray, List.set_cons_zero, List.set_cons_succ] at hInv ⊢
  refine lastS 9 rfl (by decide) (by kernel_rfl) (fun K hK => ?_)
  go_simp
  refine hK.out _ _ ?_
  clear hK K
  refine wpAnyS_done (by kernel_rfl) ?_ _
  go_wp2_with fail
  have hAA := ((hA.alloc hCs (.cells #[.int .i64 (kN x : Nat), .int .i64 (cN x : Nat), .int .i64 (lnN x : Nat), .int .i64 (mN x : Nat), .int .u64 (bN x : Nat), .int .u64 (lv : Nat), .int .u64 (tk : Nat)] 99)).drew).drew
  have hA7 := (((Below.refl W1.heap.size W1).alloc (Nat.le_refl _) (.cells #[.int .i64 (kN x : Nat), .int .i64 (cN x : Nat), .int .i64 (lnN x : Nat), .int .i64 (mN x : Nat), .int .u64 (bN x : Nat), .int .u64 (lv : Nat), .int .u64 (tk : Nat)] 99)).drew).drew
  obtain ⟨y0, y1, y3⟩ : ((W1.alloc (.cells #[.int .i64 (kN x : Nat), .int .i64 (cN x : Nat), .int .i64 (lnN x : Nat), .int .i64 (mN x : Nat), .int .u64 (bN x : Nat), .int .u64 (lv : Nat), .int .u64 (tk : Nat)] 99)).drew).drew.cell? ⟨W1.heap.size, 0, none⟩ = some (.int .i64 (kN x : Nat)) ∧ ((W1.alloc (.cells #[.int .i64 (kN x : Nat), .int .i64 (cN x : Nat), .int .i64 (lnN x : Nat), .int .i64 (mN x : Nat), .int .u64 (bN x : Nat), .int .u64 (lv : Nat), .int .u64 (tk : Nat)] 99)).drew).drew.cell? ⟨W1.heap.size, 1, none⟩ = some (.int .i64 (cN x : Nat)) ∧ ((W1.alloc (.cells #[.int .i64 (kN x : Nat), .int .i64 (cN x : Nat), .int .i64 (lnN x : Nat), .int .i64 (mN x : Nat), .int .u64 (bN x : Nat), .int .u64 (lv : Nat), .int .u64 (tk : Nat)] 99)).drew).drew.cell? ⟨W1.heap.size, 3, none⟩ = some (.int .i64 (mN x : Nat)) := by
    refine ⟨?_, ?_, ?_⟩ <;> simp [go_sem]
  have p1' := cellK5 p1 hA7
  have p2' := cellK5 p2 hA7
  have p3' := cellK5 p3 hA7
  have hw2 := hwA.out.keep hA7.drew
  clear hHeld hInv hb hA7 hA p0 p1 p2 p3 xB x0 x1 x2 x3 x4 x5 x6 hg h1 h2 h3 h4 hwA
  generalize ((W1.alloc (.cells #[.int .i64 (kN x : Nat), .int .i64 (cN x : Nat), .int .i64 (lnN x : Nat), .int .i64 (mN x : Nat), .int .u64 (bN x : Nat), .int .u64 (lv : Nat), .int .u64 (tk : Nat)] 99)).drew).drew = W2 at *
  generalize W1.heap.size = D at *
  have hB2 := hAA
  have hT2 : Tab W2.drew := hw2.2.2.1
  have hMy := Lib.hid (fun w (ht : Tab w) => mny_any (cN x : Nat) w ht)
  rw [mny_N] at hMy
  generalize hM : mnN (cN x) = M at *
  have hM8 : M ≤ 8 := by rw [← hM]; unfold mnN; split <;> (try split) <;> (try split) <;> omega
  clear hw2 hAA hM
  by_cases k1 : kN x = 1
  · by_cases c1 : cl = (cN x : Nat)
    · by_cases z0 : 0 ≤ ix
      · by_cases z1 : ix < (M : Nat)
        · obtain ⟨q, rfl⟩ : ∃ q : Nat, ix = (q : Int) := ⟨ix.toNat, by omega⟩
          obtain ⟨V, hV⟩ : ∃ V, V = 2 ^ q := ⟨_, rfl⟩
          have hq8 : q < 8 := by omega
          have hV2 : V < 18446744073709551616 := by rw [hV]; exact Nat.pow_lt_pow_right (n := 64) (by decide : 1 < 2) (by omega)
          have r3 : IntKind.u64.wrap (2 ^ q) = (V : Int) := by rw [hV]; exact wrap_pow q (by omega)
          have z3 : (q : Int) < 64 := by omega
          have hVe : Hid (2 ^ Int.toNat (q : Nat) = V) := Lib.hid (by rw [Int.toNat_natCast, hV])
          replace hV := Lib.hid hV
          obtain rfl : r = V := by rw [hBS.out]; rw [if_pos ⟨by omega, by omega, by omega, by omega⟩, hVe.out]
          have t1 : (((kN x : Nat) : Int) == 1) = true := by rw [beq_iff_eq]; omega
          have t2 : (cl == ((cN x : Nat) : Int)) = true := by rw [beq_iff_eq]; omega
          have t3 : (decide (0 ≤ (q : Int))) = true := by exact decide_eq_true (by omega)
          have t4 : (decide ((q : Int) < (M : Int))) = true := by exact decide_eq_true (by omega)
          clear hBS
          refine wp_region_held_drew (S := (fun w' => w' = W2.drew)) (by kernel_rfl) ?_ (fun hHeld => ?_)
          · (try dsimp only)
            all_goals rfl
          refine takeU 0 ?_
          refine takeU 1 ?_
          refine takeU 2 ?_
          refine takeU 3 ?_
          refine takeU 4 ?_
          refine takeU 5 ?_
          refine takeU 6 ?_
          refine takeU 7 ?_
          refine takeU 8 ?_
          refine takeU 9 ?_
          refine takeU 10 ?_
          refine takeU 11 ?_
          refine takeU 12 ?_
          refine takeU 13 ?_
          refine takeU 14 ?_
          refine takeU 15 ?_
          refine takeU 16 ?_
          refine takeU 17 ?_
          refine takeU 18 ?_
          refine takeU 19 ?_
          refine takeU 20 ?_
          refine takeU 21 ?_
          refine takeU 22 ?_
          refine oneL 23 rfl (by kernel_rfl) (fun K hK => ?_)
          go_simp
          (go_at_call 90; (with_reducible refine (hMy.out _ hT2).mono ?_); rintro e w8 ⟨rfl, rfl⟩)
          refine hK.out _ _ ?_ (fun hHeld2 => ?_)
          · (try dsimp only)
            all_goals rfl
          clear hK K hHeld
          have hHeld := hHeld2
          clear hHeld2
          try simp only [Act.put, List.setIfInBounds_toArray, List.set_cons_zero, List.set_cons_succ]
          refine takeU 24 ?_
          refine takeU 25 ?_
          refine takeU 26 ?_
          refine wpAnyH_done (by kernel_rfl) ?_ _
          go_wp2_with fail
          go_ret
          exact ⟨rfl, hB2.drew⟩
        · obtain rfl : r = 0 := by rw [hBS.out]; rw [if_neg (by omega), if_neg (by omega)]
          have t1 : (((kN x : Nat) : Int) == 1) = true := by rw [beq_iff_eq]; omega
          have t2 : (cl == ((cN x : Nat) : Int)) = true := by rw [beq_iff_eq]; omega
          have t3 : (decide (0 ≤ ix)) = true := by exact decide_eq_true (by omega)
          have t4 : (decide (ix < (M : Int))) = false := by exact decide_eq_false (by omega)
          have t5 : (((kN x : Nat) : Int) == 2) = false := by rw [beq_eq_false_iff_ne]; omega
          clear hBS
          refine wp_region_held_drew (S := (fun w' => w' = W2.drew)) (by kernel_rfl) ?_ (fun hHeld => ?_)
          · (try dsimp only)
            all_goals rfl
          refine takeU 0 ?_
          refine takeU 1 ?_
          refine takeU 2 ?_
          refine takeU 3 ?_
          refine takeU 4 ?_
          refine takeU 5 ?_
          refine takeU 6 ?_
          refine takeU 7 ?_
          refine takeU 8 ?_
          refine takeU 9 ?_
          refine takeU 10 ?_
          refine takeU 11 ?_
          refine takeU 12 ?_
          refine takeU 13 ?_
          refine takeU 14 ?_
          refine takeU 15 ?_
          refine takeU 16 ?_
          refine takeU 17 ?_
          refine takeU 18 ?_
          refine takeU 19 ?_
          refine takeU 20 ?_
          refine takeU 21 ?_
          refine takeU 22 ?_
          refine oneL 23 rfl (by kernel_rfl) (fun K hK => ?_)
          go_simp
          (go_at_call 90; (with_reducible refine (hMy.out _ hT2).mono ?_); rintro e w8 ⟨rfl, rfl⟩)
          refine hK.out _ _ ?_ (fun hHeld2 => ?_)
          · (try dsimp only)
            all_goals rfl
          clear hK K hHeld
          have hHeld := hHeld2
          clear hHeld2
          try simp only [Act.put, List.setIfInBounds_toArray, List.set_cons_zero, List.set_cons_succ]
          refine takeU 24 ?_
          refine takeU 25 ?_
          refine takeU 26 ?_
          refine wpAnyH_done (by kernel_rfl) ?_ _
          go_wp2_with fail
          go_ret
          exact ⟨rfl, hB2.drew⟩
      · obtain rfl : r = 0 := by rw [hBS.out]; rw [if_neg (by omega), if_neg (by omega)]
        have t1 : (((kN x : Nat) : Int) == 1) = true := by rw [beq_iff_eq]; omega
        have t2 : (cl == ((cN x : Nat) : Int)) = true := by rw [beq_iff_eq]; omega
        have t3 : (decide (0 ≤ ix)) = false := by exact decide_eq_false (by omega)
        have t5 : (((kN x : Nat) : Int) == 2) = false := by rw [beq_eq_false_iff_ne]; omega
        clear hBS
        refine wp_region_held_drew (S := (fun w' => w' = W2.drew)) (by kernel_rfl) ?_ (fun hHeld => ?_)
        · (try dsimp only)
          all_goals rfl
        refine takeU 0 ?_
        refine takeU 1 ?_
        refine takeU 2 ?_
        refine takeU 3 ?_
        refine takeU 4 ?_
        refine takeU 5 ?_
        refine takeU 6 ?_
        refine takeU 7 ?_
        refine takeU 8 ?_
        refine takeU 9 ?_
        refine takeU 10 ?_
        refine takeU 11 ?_
        refine takeU 12 ?_
        refine takeU 13 ?_
        refine takeU 14 ?_
        refine takeU 15 ?_
        refine takeU 16 ?_
        refine takeU 17 ?_
        refine idleQ 18 ?_
        refine idleQ 19 ?_
        refine idleQ 20 ?_
        refine idleQ 21 ?_
        refine idleQ 22 ?_
        refine idleQ 23 ?_
        refine idleQ 24 ?_
        refine takeU 25 ?_
        refine takeU 26 ?_
        refine wpAnyH_done (by kernel_rfl) ?_ _
        go_wp2_with fail
        go_ret
        exact ⟨rfl, hB2.drew⟩
    · obtain rfl : r = 0 := by rw [hBS.out]; rw [if_neg (by omega), if_neg (by omega)]
      have t1 : (((kN x : Nat) : Int) == 1) = true := by rw [beq_iff_eq]; omega
      have t2 : (cl == ((cN x : Nat) : Int)) = false := by rw [beq_eq_false_iff_ne]; omega
      have t5 : (((kN x : Nat) : Int) == 2) = false := by rw [beq_eq_false_iff_ne]; omega
      clear hBS
      refine wp_region_held_drew (S := (fun w' => w' = W2.drew)) (by kernel_rfl) ?_ (fun hHeld => ?_)
      · (try dsimp only)
        all_goals rfl
      refine takeU 0 ?_
      refine takeU 1 ?_
      refine takeU 2 ?_
      refine takeU 3 ?_
      refine takeU 4 ?_
      refine takeU 5 ?_
      refine takeU 6 ?_
      refine takeU 7 ?_
      refine takeU 8 ?_
      refine takeU 9 ?_
      refine takeU 10 ?_
      refine takeU 11 ?_
      refine takeU 12 ?_
      refine idleQ 13 ?_
      refine idleQ 14 ?_
      refine idleQ 15 ?_
      refine takeU 16 ?_
      refine takeU 17 ?_
      refine idleQ 18 ?_
      refine idleQ 19 ?_
      refine idleQ 20 ?_
      refine idleQ 21 ?_
      refine idleQ 22 ?_
      refine idleQ 23 ?_
      refine idleQ 24 ?_
      refine takeU 25 ?_
      refine takeU 26 ?_
      refine wpAnyH_done (by kernel_rfl) ?_ _
      go_wp2_with fail
      go_ret
      exact ⟨rfl, hB2.drew⟩
  · by_cases k2 : kN x = 2
    · by_cases c2 : cl = -1
      · by_cases i0 : ix = 0
        · by_cases m0 : mn = (mN x : Nat)
          · obtain rfl : r = 1 := by rw [hBS.out]; rw [if_neg (by omega), if_pos ⟨by omega, by omega, by omega, by omega⟩]
            have t1 : (((kN x : Nat) : Int) == 1) = false := by rw [beq_eq_false_iff_ne]; omega
            have t5 : (((kN x : Nat) : Int) == 2) = true := by rw [beq_iff_eq]; omega
            have t6 : (cl == -1) = true := by rw [beq_iff_eq]; omega
            have t7 : (ix == 0) = true := by rw [beq_iff_eq]; omega
            have t8 : (mn == ((mN x : Nat) : Int)) = true := by rw [beq_iff_eq]; omega
            clear hBS
            refine wp_region_held_drew (S := (fun w' => w' = W2.drew)) (by kernel_rfl) ?_ (fun hHeld => ?_)
            · (try dsimp only)
              all_goals rfl
            refine takeU 0 ?_
            refine takeU 1 ?_
            refine takeU 2 ?_
            refine takeU 3 ?_
            refine takeU 4 ?_
            refine idleQ 5 ?_
            refine idleQ 6 ?_
            refine idleQ 7 ?_
            refine idleQ 8 ?_
            refine idleQ 9 ?_
            refine idleQ 10 ?_
            refine takeU 11 ?_
            refine takeU 12 ?_
            refine idleQ 13 ?_
            refine idleQ 14 ?_
            refine idleQ 15 ?_
            refine takeU 16 ?_
            refine takeU 17 ?_
            refine idleQ 18 ?_
            refine idleQ 19 ?_
            refine idleQ 20 ?_
            refine idleQ 21 ?_
            refine idleQ 22 ?_
            refine idleQ 23 ?_
            refine idleQ 24 ?_
            refine takeU 25 ?_
            refine takeU 26 ?_
            refine wpAnyH_done (by kernel_rfl) ?_ _
            go_wp2_with fail
            go_ret
            exact ⟨rfl, hB2.drew⟩
          · obtain rfl : r = 0 := by rw [hBS.out]; rw [if_neg (by omega), if_neg (by omega)]
            have t1 : (((kN x : Nat) : Int) == 1) = false := by rw [beq_eq_false_iff_ne]; omega
            have t5 : (((kN x : Nat) : Int) == 2) = true := by rw [beq_iff_eq]; omega
            have t6 : (cl == -1) = true := by rw [beq_iff_eq]; omega
            have t7 : (ix == 0) = true := by rw [beq_iff_eq]; omega
            have t8 : (mn == ((mN x : Nat) : Int)) = false := by rw [beq_eq_false_iff_ne]; omega
            clear hBS
            refine wp_region_held_drew (S := (fun w' => w' = W2.drew)) (by kernel_rfl) ?_ (fun hHeld => ?_)
            · (try dsimp only)
              all_goals rfl
            refine takeU 0 ?_
            refine takeU 1 ?_
            refine takeU 2 ?_
            refine takeU 3 ?_
            refine takeU 4 ?_
            refine idleQ 5 ?_
            refine idleQ 6 ?_
            refine idleQ 7 ?_
            refine idleQ 8 ?_
            refine idleQ 9 ?_
            refine idleQ 10 ?_
            refine takeU 11 ?_
            refine takeU 12 ?_
            refine idleQ 13 ?_
            refine idleQ 14 ?_
            refine idleQ 15 ?_
            refine takeU 16 ?_
            refine takeU 17 ?_
            refine idleQ 18 ?_
            refine idleQ 19 ?_
            refine idleQ 20 ?_
            refine idleQ 21 ?_
            refine idleQ 22 ?_
            refine idleQ 23 ?_
            refine idleQ 24 ?_
            refine takeU 25 ?_
            refine takeU 26 ?_
            refine wpAnyH_done (by kernel_rfl) ?_ _
            go_wp2_with fail
            go_ret
            exact ⟨rfl, hB2.drew⟩
        · obtain rfl : r = 0 := by rw [hBS.out]; rw [if_neg (by omega), if_neg (by omega)]
          have t1 : (((kN x : Nat) : Int) == 1) = false := by rw [beq_eq_false_iff_ne]; omega
          have t5 : (((kN x : Nat) : Int) == 2) = true := by rw [beq_iff_eq]; omega
          have t6 : (cl == -1) = true := by rw [beq_iff_eq]; omega
          have t7 : (ix == 0) = false := by rw [beq_eq_false_iff_ne]; omega
          clear hBS
          refine wp_region_held_drew (S := (fun w' => w' = W2.drew)) (by kernel_rfl) ?_ (fun hHeld => ?_)
          · (try dsimp only)
            all_goals rfl
          refine takeU 0 ?_
          refine takeU 1 ?_
          refine takeU 2 ?_
          refine takeU 3 ?_
          refine takeU 4 ?_
          refine idleQ 5 ?_
          refine idleQ 6 ?_
          refine idleQ 7 ?_
          refine idleQ 8 ?_
          refine idleQ 9 ?_
          refine idleQ 10 ?_
          refine takeU 11 ?_
          refine takeU 12 ?_
          refine idleQ 13 ?_
          refine idleQ 14 ?_
          refine idleQ 15 ?_
          refine takeU 16 ?_
          refine takeU 17 ?_
          refine idleQ 18 ?_
          refine idleQ 19 ?_
          refine idleQ 20 ?_
          refine idleQ 21 ?_
          refine idleQ 22 ?_
          refine idleQ 23 ?_
          refine idleQ 24 ?_
          refine takeU 25 ?_
          refine takeU 26 ?_
          refine wpAnyH_done (by kernel_rfl) ?_ _
          go_wp2_with fail
          go_ret
          exact ⟨rfl, hB2.drew⟩
      · obtain rfl : r = 0 := by rw [hBS.out]; rw [if_neg (by omega), if_neg (by omega)]
        have t1 : (((kN x : Nat) : Int) == 1) = false := by rw [beq_eq_false_iff_ne]; omega
        have t5 : (((kN x : Nat) : Int) == 2) = true := by rw [beq_iff_eq]; omega
        have t6 : (cl == -1) = false := by rw [beq_eq_false_iff_ne]; omega
        clear hBS
        refine wp_region_held_drew (S := (fun w' => w' = W2.drew)) (by kernel_rfl) ?_ (fun hHeld => ?_)
        · (try dsimp only)
          all_goals rfl
        refine takeU 0 ?_
        refine takeU 1 ?_
        refine takeU 2 ?_
        refine takeU 3 ?_
        refine takeU 4 ?_
        refine idleQ 5 ?_
        refine idleQ 6 ?_
        refine idleQ 7 ?_
        refine idleQ 8 ?_
        refine idleQ 9 ?_
        refine idleQ 10 ?_
        refine takeU 11 ?_
        refine takeU 12 ?_
        refine idleQ 13 ?_
        refine idleQ 14 ?_
        refine idleQ 15 ?_
        refine takeU 16 ?_
        refine takeU 17 ?_
        refine idleQ 18 ?_
        refine idleQ 19 ?_
        refine idleQ 20 ?_
        refine idleQ 21 ?_
        refine idleQ 22 ?_
        refine idleQ 23 ?_
        refine idleQ 24 ?_
        refine takeU 25 ?_
        refine takeU 26 ?_
        refine wpAnyH_done (by kernel_rfl) ?_ _
        go_wp2_with fail
        go_ret
        exact ⟨rfl, hB2.drew⟩
    · obtain rfl : r = 0 := by rw [hBS.out]; rw [if_neg (by omega), if_neg (by omega)]
      have t1 : (((kN x : Nat) : Int) == 1) = false := by rw [beq_eq_false_iff_ne]; omega
      have t5 : (((kN x : Nat) : Int) == 2) = false := by rw [beq_eq_false_iff_ne]; omega
      clear hBS
      refine wp_region_held_drew (S := (fun w' => w' = W2.drew)) (by kernel_rfl) ?_ (fun hHeld => ?_)
      · (try dsimp only)
        all_goals rfl
      refine takeU 0 ?_
      refine takeU 1 ?_
      refine takeU 2 ?_
      refine takeU 3 ?_
      refine takeU 4 ?_
      refine idleQ 5 ?_
      refine idleQ 6 ?_
      refine idleQ 7 ?_
      refine idleQ 8 ?_
      refine idleQ 9 ?_
      refine idleQ 10 ?_
      refine takeU 11 ?_
      refine takeU 12 ?_
      refine idleQ 13 ?_
      refine idleQ 14 ?_
      refine idleQ 15 ?_
      refine takeU 16 ?_
      refine takeU 17 ?_
      refine idleQ 18 ?_
      refine idleQ 19 ?_
      refine idleQ 20 ?_
      refine idleQ 21 ?_
      refine idleQ 22 ?_
      refine idleQ 23 ?_
      refine idleQ 24 ?_
      refine takeU 25 ?_
      refine takeU 26 ?_
      refine wpAnyH_done (by kernel_rfl) ?_ _
      go_wp2_with fail
      go_ret
      exact ⟨rfl, hB2.drew⟩
theorem ixBit_any {w : World} {base B : Nat} {v : Value} {S : List St} (hI : IxAt w base B v S) (ch ix cl mn : Int) (fr : Bool) (hl : S.length ≤ 10000) (hw : Lw w) :
    Calls Tryd.prog 78 #[.pointer (some ⟨B, 0, none⟩), .agg #[.int .i64 ch, .int .i64 ix, .int .i64 cl, .int .i64 mn, .bool fr]] w fun e w' => e = .returned (.int .u64 (bitS S ch ix cl mn : Nat)) ∧ Below w.heap.size w w' := by
  by_cases h : 0 ≤ ch ∧ ch < S.length
  · obtain ⟨i, rfl⟩ : ∃ i : Nat, ch = (i : Int) := ⟨ch.toNat, by omega⟩
    exact bit_in hI i ix cl mn fr (by omega) hl hw
  · have hz : bitS S ch ix cl mn = 0 := by unfold bitS; rw [if_neg h]
    rw [hz]
    exact bit_out hI ch ix cl mn fr h
end Go.Proofs.YtnjifmecaeagaaaDoor
