/-
  The document's Take.
  The document's Take of chunks of its own.
-/
import Derived.Test.YtnjifmecaeagaaaDoorQI
section
set_option linter.unusedVariables false
set_option linter.unusedSimpArgs false
namespace Go.Proofs.YtnjifmecaeagaaaDoor
open Go.Lib Go.RowKit Go.ChangeShapes Go.WideShapes Go.Deep
def DTakeP (w : World) (base B : Nat) (v : Value) (S : List St) (o : Option Nat) (m : Nat) (e : Ending) (w' : World) : Prop :=
  ∃ S' r, TakeR S o m S' r ∧ e = .returned (.tuple #[plcV r, .int .i64 (if r.isSome then 0 else 2)]) ∧ YAt w' base B v S' ∧ Chg (fun k => v.ownBlock = some k) w w'
set_option maxRecDepth 10000 in
set_option maxHeartbeats 2000000 in
theorem dtake_blk {w : World} {base B : Nat} {v : Value} {S : List St} (hI : YAt w base B v S) (hS : SOk S) (hl : S.length ≤ 10000) (n : Nat) (hn : n ≤ 4096) {c : Nat} (ho : ofN n = some c) (m : Nat) :
    Calls Tryd.prog 40 #[.pointer (some ⟨B, 0, none⟩), .int .i64 (n : Nat)] w (DTakeP w base B v S (some c) m) := by
  have hA := (Below.refl w.heap.size w).alloc (Nat.le_refl _) (.cells #[.int .i64 0, .int .i64 0, .int .i64 0, .int .i64 0, .bool false] 62)
  have hI1 := hI.keep hA
  have hR1 := PlBox.new w
  obtain ⟨W0, hW0⟩ : ∃ W0, w.alloc (.cells #[.int .i64 0, .int .i64 0, .int .i64 0, .int .i64 0, .bool false] 62) = W0 := ⟨_, rfl⟩
  rw [hW0] at hA hI1 hR1
  have hRg := Lib.hid (fun w1 => refRgt_t (n : Nat) w1 (by omega) (by omega))
  obtain ⟨hc, hcl, h14⟩ := ofN_some ho
  have hOf := Lib.hid (fun w1 => show Calls Tryd.prog 57 #[.int .i64 (n : Nat)] w1 (fun e w' => e = .returned (.int .i64 (c : Nat)) ∧ w1 = w') from by have h := refOf_any (n : Nat) w1; rw [hcl] at h; exact h)
  have hCk := Lib.hid (fun w1 => show Calls Tryd.prog 56 #[.int .i64 (n : Nat)] w1 (fun e w' => e = .returned (.int .i64 0) ∧ w1 = w') from by have h := refChk_any (n : Nat) w1; rw [show chkI (n : Nat) = 0 from by unfold chkI; first | (rw [if_neg (by omega)]; done) | (split <;> omega) | skip] at h; exact h)
  obtain ⟨M, hM⟩ : ∃ M, mnN c = M := ⟨_, rfl⟩
  have hM8 : M ≤ 8 := by rw [← hM]; exact mnN_le c
  have hMn := Lib.hid (fun w1 => show Calls Tryd.prog 32 #[.int .i64 (c : Nat)] w1 (fun e w' => e = .returned (.int .i64 (M : Nat)) ∧ w1 = w') from by have h := refMny_any (c : Nat) w1; rw [mny_N, hM] at h; exact h)
  have hRow := Lib.hid (fun w1 (hb : Below W0.heap.size W0 w1) => row_any (hI1.keep hb) hS hl 1 (Nat.le_refl _) (by omega))
  obtain ⟨nn, hnn⟩ : ∃ n, S.length = n := ⟨_, rfl⟩
  have hn9 : nn ≤ 10000 := by omega
  have hX := Lib.hid (fun w1 (hb : Below W0.heap.size W0 w1) => (hI1.keep hb).box.cell)
  have hY := Lib.hid (fun w1 (hb : Below W0.heap.size W0 w1) => hI1.keep hb)
  have hZ := Lib.hid (fun w1 (hb : Below W0.heap.size W0 w1) => hR1.keep hb)
  obtain ⟨R, hR⟩ : ∃ R, w.heap.size = R := ⟨_, rfl⟩
  have hBR : ¬ B = R := by have := hI.box.lt; omega
  have hvR : ∀ k, v.ownBlock = some k → ¬ k = R := fun k q e => by have := (hI.row.lt k q).2; omega
  have t0 : decide (0 ≤ (c : Int)) = true := decide_eq_true (by omega)
  have t8 : ¬ (c : Int) < 0 := by omega
  rw [hR] at hR1 hZ
  obtain ⟨A, cap, rfl⟩ := hI.form hnn
  have hg0 := Lib.hid (fun (h : 0 < nn) => show ∃ g, A = some ⟨g, 0, none⟩ from by
    obtain ⟨g, c2, h, _⟩ := hI.row.form (by omega)
    simp only [Value.slice.injEq] at h
    exact ⟨g, h.1⟩)
  replace hnn := Lib.hid hnn
  replace hM := Lib.hid hM
  clear hI hl ho hcl hI1 hR1
  go_enter Tryd.func40, Tryd.ntmps40
  go_wp2_with (first | (go_at_call 76; ((with_reducible refine (hRg.out _).mono ?_); rintro e w' ⟨rfl, rfl⟩)) | (go_at_call 57; ((with_reducible refine (hOf.out _).mono ?_); rintro e w' ⟨rfl, rfl⟩)) | (go_at_call 56; ((with_reducible refine (hCk.out _).mono ?_); rintro e w' ⟨rfl, rfl⟩)) | (go_at_call 32; ((with_reducible refine (hMn.out _).mono ?_); rintro e w' ⟨rfl, rfl⟩)))
  replace hW0 := Lib.hid hW0
  go_loopw [8] (fun i wr => ∃ (j : Nat), j ≤ nn ∧ i = .int .i64 j ∧ Hid (∀ k, k < j → runAt c (gS S k) = false) ∧ Below W0.heap.size W0 wr) (fun i _ => nn + 1 - (intOf i).toNat)
  case atStart => exact ⟨0, Nat.zero_le _, rfl, Lib.hid (fun k hk => by omega), by cases hW0.out; exact Below.refl _ _⟩
  case round =>
    obtain ⟨j, hj, rfl, hno, hB⟩ := hrel
    have x0 := hX.out wr hB
    by_cases hlt : j < nn
    · have hlt' : (j : Int) < (nn : Int) := by omega
      obtain ⟨g, rfl⟩ := hg0.out (by omega)
      have hgR : ¬ R = g := fun e => hvR g rfl e.symm
      obtain ⟨⟨x, lv, tk⟩, hs⟩ : ∃ s, gS S j = s := ⟨_, rfl⟩
      have hD := Lib.hid (fun w1 (hb : Below W0.heap.size W0 w1) => (hY.out w1 hb).at hnn.out hlt hs)
      obtain ⟨c0, c1, -⟩ := hD.out wr hB
      have hnx := Lib.hid (fun (h : runAt c (x, lv, tk) = false) => show ∀ k, k < j + 1 → runAt c (gS S k) = false from fun k hk => by
        by_cases e : k < j
        · exact hno.out k e
        · obtain rfl : k = j := by omega
          rw [hs]; exact h)
      have t1 : decide ((j : Int) < 0) = false := decide_eq_false (by omega)
      by_cases k1 : kN x = 1
      · have k1' : ((kN x : Nat) : Int) = 1 := by omega
        rw [k1'] at c0
        by_cases kc : cN x = c
        · have kc' : ((cN x : Nat) : Int) = (c : Int) := by omega
          rw [kc'] at c1
          have hBk := Lib.hid (fun w1 (hb : Below W0.heap.size W0 w1) (k : Nat) (hk : k < 8) => show w1.cell? ⟨g, j * 14 + 5 + k, none⟩ = some (.int .i64 (blkD (x, lv, tk) k : Nat)) from by
            have h := (OwnE.cell dS_len (hY.out w1 hb).row hnn.out (i := j) (j := 5 + k) hlt (by omega)).1
            rw [show S.getD j default = (x, lv, tk) from hs, dS_blk _ k hk] at h
            rw [Nat.add_assoc]; exact h)
          go_wp2_with fail
          clear c0 c1 x0
          go_loopw [9] (fun u wr => ∃ (k : Nat), k ≤ M ∧ u = .int .i64 k ∧ Hid (∀ q, q < k → ¬ blkD (x, lv, tk) q = 0) ∧ Below W0.heap.size W0 wr) (fun u _ => 9 - (intOf u).toNat)
          case atStart => exact ⟨0, Nat.zero_le _, rfl, Lib.hid (fun k hk => by omega), hB⟩
          case round =>
            obtain ⟨k, hk, rfl, hbk, hB2⟩ := hrel
            have x0 := hX.out wr hB2
            obtain ⟨c0, c1, -⟩ := hD.out wr hB2
            rw [k1'] at c0
            rw [kc'] at c1
            by_cases hkM : k < M
            · have hkM' : (k : Int) < (M : Int) := by omega
              have t2 : (k : Int) < 8 := by omega
              have cb := hBk.out wr hB2 k (by omega)
              by_cases hb0 : blkD (x, lv, tk) k = 0
              · have hT := Lib.hid (show TakeR S (some c) m (S.set j (x, lv, tk ||| 2 ^ k)) (some ⟨j, k, c, 0, false⟩) from by
                  have h := TakeR.run (S := S) (m := m) (i := j) (j := k) (c := c) (by have := hnn.out; omega) (by rw [hs]; exact k1) (by rw [hs]; exact kc) (run_yes hs k1 kc (by rw [hM.out]; exact hkM) hb0 hbk.out) hno.out
                  rw [hs] at h; exact h)
                have q0 : ((blkD (x, lv, tk) k : Nat) : Int) = 0 := by omega
                rw [q0] at cb
                have hYr := hY.out wr hB2
                have df : wr.frozen? ⟨g, j * 14 + 5 + k, none⟩ = false := by rw [Nat.add_assoc]; exact hYr.fz hnn.out hlt (by omega)
                obtain ⟨hP, hCP⟩ := YAt.set hYr hnn.out hlt (j := 5 + k) (by omega) (s := (x, lv, tk ||| 2 ^ k)) (u := .int .i64 2) (by rw [hs]; exact dS_take k1 hb0 (by omega))
                rw [← Nat.add_assoc] at hP hCP
                have hRn := (hZ.out wr hB2).chg hCP hgR
                have hCn : Chg (fun k => k = g) w (wr.setCell ⟨g, j * 14 + 5 + k, none⟩ (.int .i64 2)) := ((Chg.of_below (fun k => k = g) hA).trans (Chg.of_below (fun k => k = g) hB2) (fun j q => .inl q)).trans hCP (fun j q => .inl q)
                have hThR := Lib.hid hRn.there
                obtain ⟨⟨y0, y1, y2, y3, y4⟩, hch⟩ := hRn.put (j : Nat) (k : Nat) (c : Nat) 0 false
                have hIe := hP.chg hch hBR (fun k q => by cases q; exact fun q => hgR q.symm)
                have hCe := hCn.trans hch (fun j q => .inr (by rw [q, ← hR]; exact Nat.le_refl _))
                obtain ⟨W2, hW2⟩ : ∃ W2, plW (wr.setCell ⟨g, j * 14 + 5 + k, none⟩ (.int .i64 2)) R (j : Nat) (k : Nat) (c : Nat) 0 false = W2 := ⟨_, rfl⟩
                rw [hW2] at y0 y1 y2 y3 y4 hIe hCe
                replace hIe := Lib.hid hIe
                replace hCe := Lib.hid hCe
                replace hW2 := Lib.hid hW2
                clear hP hRn hCn hch
                clear hYr hCP hB hB2 hb0 q0 hA
                replace hs := Lib.hid hs
                replace hR := Lib.hid hR
                go_wp2_with (first | (go_at_call 76; ((with_reducible refine (hRg.out _).mono ?_); rintro e w' ⟨rfl, rfl⟩)) | (go_at_call 57; ((with_reducible refine (hOf.out _).mono ?_); rintro e w' ⟨rfl, rfl⟩)) | (go_at_call 56; ((with_reducible refine (hCk.out _).mono ?_); rintro e w' ⟨rfl, rfl⟩)) | (go_at_call 32; ((with_reducible refine (hMn.out _).mono ?_); rintro e w' ⟨rfl, rfl⟩)) | (refine wpList_store_mid rfl _ _ _ rfl R 0 #[.int .i64 (j : Nat), .int .i64 (k : Nat), .int .i64 (c : Nat), .int .i64 0, .bool false] rfl rfl hThR.out infoPl5 (one5 _ _ _ _ _) ?_; rw [show ((wr.setCell ⟨g, j * 14 + 5 + k, none⟩ (.int .i64 2))).setCells R 0 (#[.int .i64 (j : Nat), .int .i64 (k : Nat), .int .i64 (c : Nat), .int .i64 0, .bool false] : Array Value).toList = W2 from hW2.out]))
                refine bodyPost_ret (v := .tuple #[plV (j : Nat) (k : Nat) (c : Nat) 0 false, .int .i64 0]) ?_ rfl ⟨_, _, hT.out, rfl, hIe.out, chgOwn hCe.out⟩
                simp [results, Tryd.f40, go_sem, y0, y1, y2, y3, y4]
              · have q0 : ¬ ((blkD (x, lv, tk) k : Nat) : Int) = 0 := by omega
                have hbk2 := Lib.hid (fun q (hq : q < k + 1) => show ¬ blkD (x, lv, tk) q = 0 from by
                  by_cases e : q < k
                  · exact hbk.out q e
                  · obtain rfl : q = k := by omega
                    exact hb0)
                generalize blkD (x, lv, tk) k = bb at cb q0
                clear hb0
                replace hs := Lib.hid hs
                go_wp2_with (first | (go_at_call 76; ((with_reducible refine (hRg.out _).mono ?_); rintro e w' ⟨rfl, rfl⟩)) | (go_at_call 57; ((with_reducible refine (hOf.out _).mono ?_); rintro e w' ⟨rfl, rfl⟩)) | (go_at_call 56; ((with_reducible refine (hCk.out _).mono ?_); rintro e w' ⟨rfl, rfl⟩)) | (go_at_call 32; ((with_reducible refine (hMn.out _).mono ?_); rintro e w' ⟨rfl, rfl⟩)))
                go_roundw
                case rel => exact ⟨k + 1, by omega, by go_num, hbk2, hB2⟩
                case measure => first | (simp [intOf]; done) | (simp [intOf]; omega)
            · obtain rfl : k = M := by omega
              have hno2 := Lib.hid (hnx.out (run_no (.inr (by rw [hM.out]; exact hbk.out))))
              replace hs := Lib.hid hs
              go_wp2_with (first | (go_at_call 76; ((with_reducible refine (hRg.out _).mono ?_); rintro e w' ⟨rfl, rfl⟩)) | (go_at_call 57; ((with_reducible refine (hOf.out _).mono ?_); rintro e w' ⟨rfl, rfl⟩)) | (go_at_call 56; ((with_reducible refine (hCk.out _).mono ?_); rintro e w' ⟨rfl, rfl⟩)) | (go_at_call 32; ((with_reducible refine (hMn.out _).mono ?_); rintro e w' ⟨rfl, rfl⟩)))
              go_roundw
              case rel => exact ⟨j + 1, by omega, by go_num, hno2, hB2⟩
              case measure => first | (simp [intOf]; done) | (simp [intOf]; omega)
        · have kc' : ¬ ((cN x : Nat) : Int) = (c : Int) := by omega
          have hno2 := Lib.hid (hnx.out (run_no (.inl (fun q => kc q.2))))
          replace hs := Lib.hid hs
          clear kc
          go_wp2_with fail
          go_loopw [9] (fun u wr => u = .int .i64 0 ∧ Below W0.heap.size W0 wr) (fun _ _ => 0)
          case atStart => exact ⟨rfl, hB⟩
          case round =>
            obtain ⟨rfl, hB2⟩ := hrel
            clear x0
            have x0 := hX.out wr hB2
            clear c0 c1
            obtain ⟨c0, c1, -⟩ := hD.out wr hB2
            rw [k1'] at c0
            go_wp2_with (first | (go_at_call 76; ((with_reducible refine (hRg.out _).mono ?_); rintro e w' ⟨rfl, rfl⟩)) | (go_at_call 57; ((with_reducible refine (hOf.out _).mono ?_); rintro e w' ⟨rfl, rfl⟩)) | (go_at_call 56; ((with_reducible refine (hCk.out _).mono ?_); rintro e w' ⟨rfl, rfl⟩)) | (go_at_call 32; ((with_reducible refine (hMn.out _).mono ?_); rintro e w' ⟨rfl, rfl⟩)))
            go_roundw
            case rel => exact ⟨j + 1, by omega, by go_num, hno2, hB2⟩
            case measure => first | (simp [intOf]; done) | (simp [intOf]; omega)
      · have k1' : ¬ ((kN x : Nat) : Int) = 1 := by omega
        have hno2 := Lib.hid (hnx.out (run_no (.inl (fun q => k1 q.1))))
        replace hs := Lib.hid hs
        go_wp2_with fail
        go_loopw [9] (fun u wr => u = .int .i64 0 ∧ Below W0.heap.size W0 wr) (fun _ _ => 0)
        case atStart => exact ⟨rfl, hB⟩
        case round =>
          obtain ⟨rfl, hB2⟩ := hrel
          clear x0
          have x0 := hX.out wr hB2
          clear c0 c1
          obtain ⟨c0, c1, -⟩ := hD.out wr hB2
          skip
          go_wp2_with (first | (go_at_call 76; ((with_reducible refine (hRg.out _).mono ?_); rintro e w' ⟨rfl, rfl⟩)) | (go_at_call 57; ((with_reducible refine (hOf.out _).mono ?_); rintro e w' ⟨rfl, rfl⟩)) | (go_at_call 56; ((with_reducible refine (hCk.out _).mono ?_); rintro e w' ⟨rfl, rfl⟩)) | (go_at_call 32; ((with_reducible refine (hMn.out _).mono ?_); rintro e w' ⟨rfl, rfl⟩)))
          go_roundw
          case rel => exact ⟨j + 1, by omega, by go_num, hno2, hB2⟩
          case measure => first | (simp [intOf]; done) | (simp [intOf]; omega)
    · obtain rfl : j = nn := by omega
      have hnoA : Hid (∀ k, k < S.length → runAt c (gS S k) = false) := Lib.hid (by rw [hnn.out]; exact hno.out)
      have hRr := hRow.out wr hB
      go_wp2_with (first | (go_at_call 76; ((with_reducible refine (hRg.out _).mono ?_); rintro e w' ⟨rfl, rfl⟩)) | (go_at_call 57; ((with_reducible refine (hOf.out _).mono ?_); rintro e w' ⟨rfl, rfl⟩)) | (go_at_call 56; ((with_reducible refine (hCk.out _).mono ?_); rintro e w' ⟨rfl, rfl⟩)) | (go_at_call 32; ((with_reducible refine (hMn.out _).mono ?_); rintro e w' ⟨rfl, rfl⟩)))
      refine hRr.mono ?_
      rintro e w5 ⟨rfl, hb⟩
      have hB5 := hB.trans (hb.mono hB.size)
      clear hRr hb hB x0
      rcases rowV_cases (S := S) (m := 1) (Nat.le_refl _) with ⟨e1, e2⟩ | ⟨i, e1, e2, e3⟩
      · rw [e1]
        have hT := Lib.hid (show TakeR S (some c) m S none from TakeR.full hnoA.out e2)
        have hP := hY.out w5 hB5
        have hRn := hZ.out w5 hB5
        have hCn := (Chg.of_below (fun k => Value.ownBlock (.slice A j cap) = some k) hA).trans (Chg.of_below (fun k => Value.ownBlock (.slice A j cap) = some k) hB5) (fun j q => .inl q)
        have hThR := Lib.hid hRn.there
        obtain ⟨⟨y0, y1, y2, y3, y4⟩, hch⟩ := hRn.put 0 0 0 0 false
        have hIe := hP.chg hch hBR hvR
        have hCe := hCn.trans hch (fun j q => .inr (by rw [q, ← hR]; exact Nat.le_refl _))
        obtain ⟨W2, hW2⟩ : ∃ W2, plW w5 R 0 0 0 0 false = W2 := ⟨_, rfl⟩
        rw [hW2] at y0 y1 y2 y3 y4 hIe hCe
        replace hIe := Lib.hid hIe
        replace hCe := Lib.hid hCe
        replace hW2 := Lib.hid hW2
        clear hP hRn hCn hch e1 e2
        replace hR := Lib.hid hR
        clear hA hB5
        go_wp2_with ((refine wpList_store_mid rfl _ _ _ rfl R 0 #[.int .i64 0, .int .i64 0, .int .i64 0, .int .i64 0, .bool false] rfl rfl hThR.out infoPl5 (one5 _ _ _ _ _) ?_; rw [show (w5).setCells R 0 (#[.int .i64 0, .int .i64 0, .int .i64 0, .int .i64 0, .bool false] : Array Value).toList = W2 from hW2.out]))
        refine bodyPost_ret (v := .tuple #[plV 0 0 0 0 false, .int .i64 2]) ?_ rfl ⟨_, _, hT.out, rfl, hIe.out, hCe.out⟩
        simp [results, Tryd.f40, go_sem, y0, y1, y2, y3, y4]
      · rw [e1]
        have hi : i < j := by have := e2.1; have := hnn.out; omega
        have t5 : decide ((i : Int) < 0) = false := decide_eq_false (by omega)
        have t6 : ¬ (i : Int) < 0 := by omega
        have t7 : (i : Int) < (j : Int) := by omega
        obtain ⟨g, rfl⟩ := hg0.out (by omega)
        have hgR : ¬ R = g := fun e => hvR g rfl e.symm
        have hT := Lib.hid (show TakeR S (some c) m (S.set i (1 + 8 * c, 0, 1)) (some ⟨i, 0, c, 0, true⟩) from TakeR.fresh hnoA.out e2 e3)
        have hY5 := hY.out w5 hB5
        have xB := hY5.box.cell
        have hTh := Lib.hid (hY5.there hnn.out hi)
        obtain ⟨hP, hCP⟩ := YAt.put hY5 hnn.out hi (1 + 8 * c, 0, 1)
        rw [dS_fresh hc] at hP hCP
        have hRn := (hZ.out w5 hB5).chg hCP hgR
        have hCn := ((Chg.of_below (fun k => k = g) hA).trans (Chg.of_below (fun k => k = g) hB5) (fun j q => .inl q)).trans hCP (fun j q => .inl q)
        obtain ⟨W, hW⟩ : ∃ W, w5.setCells g (i * 14) [.int .i64 1, .int .i64 (c : Nat), .int .i64 0, .int .i64 0, .int .u64 0, .int .i64 2, .int .i64 0, .int .i64 0, .int .i64 0, .int .i64 0, .int .i64 0, .int .i64 0, .int .i64 0, .bool false] = W := ⟨_, rfl⟩
        rw [hW] at hP hRn hCn
        replace hW := Lib.hid hW
        have hThR := Lib.hid hRn.there
        obtain ⟨⟨y0, y1, y2, y3, y4⟩, hch⟩ := hRn.put (i : Nat) 0 (c : Nat) 0 true
        have hIe := hP.chg hch hBR (fun k q => by cases q; exact fun q => hgR q.symm)
        have hCe := hCn.trans hch (fun j q => .inr (by rw [q, ← hR]; exact Nat.le_refl _))
        obtain ⟨W2, hW2⟩ : ∃ W2, plW W R (i : Nat) 0 (c : Nat) 0 true = W2 := ⟨_, rfl⟩
        rw [hW2] at y0 y1 y2 y3 y4 hIe hCe
        replace hIe := Lib.hid hIe
        replace hCe := Lib.hid hCe
        replace hW2 := Lib.hid hW2
        clear hP hRn hCn hch
        clear hY5 hCP e1 e2 e3 hA hB5
        replace hR := Lib.hid hR
        go_wp2_with (first | (refine wpList_store_mid rfl _ _ _ rfl g (i * 14) #[.int .i64 1, .int .i64 (c : Nat), .int .i64 0, .int .i64 0, .int .u64 0, .int .i64 2, .int .i64 0, .int .i64 0, .int .i64 0, .int .i64 0, .int .i64 0, .int .i64 0, .int .i64 0, .bool false] rfl rfl hTh.out infoD14 (oneD _ _ _ _ _ _ _ _ _ _ _ _ _ _) ?_; rw [show (w5).setCells g (i * 14) (#[.int .i64 1, .int .i64 (c : Nat), .int .i64 0, .int .i64 0, .int .u64 0, .int .i64 2, .int .i64 0, .int .i64 0, .int .i64 0, .int .i64 0, .int .i64 0, .int .i64 0, .int .i64 0, .bool false] : Array Value).toList = W from hW.out]) | (refine wpList_store_mid rfl _ _ _ rfl R 0 #[.int .i64 (i : Nat), .int .i64 0, .int .i64 (c : Nat), .int .i64 0, .bool true] rfl rfl hThR.out infoPl5 (one5 _ _ _ _ _) ?_; rw [show (W).setCells R 0 (#[.int .i64 (i : Nat), .int .i64 0, .int .i64 (c : Nat), .int .i64 0, .bool true] : Array Value).toList = W2 from hW2.out]))
        refine bodyPost_ret (v := .tuple #[plV (i : Nat) 0 (c : Nat) 0 true, .int .i64 0]) ?_ rfl ⟨_, _, hT.out, rfl, hIe.out, chgOwn hCe.out⟩
        simp [results, Tryd.f40, go_sem, y0, y1, y2, y3, y4]
end Go.Proofs.YtnjifmecaeagaaaDoor
end
section
set_option linter.unusedVariables false
set_option linter.unusedSimpArgs false
namespace Go.Proofs.YtnjifmecaeagaaaDoor
open Go.Lib Go.RowKit Go.ChangeShapes Go.WideShapes Go.Deep
set_option maxRecDepth 10000 in
set_option maxHeartbeats 2000000 in
theorem dtake_hugeM {w : World} {base B : Nat} {v : Value} {S : List St} (hI : YAt w base B v S) (hS : SOk S) (hl : S.length ≤ 10000) (n : Nat) (hn : n ≤ 4096) (ho : ofN n = none) (h2 : 2 ≤ chN n) :
    Calls Tryd.prog 40 #[.pointer (some ⟨B, 0, none⟩), .int .i64 (n : Nat)] w (DTakeP w base B v S none (chN n)) := by
  have hA := (Below.refl w.heap.size w).alloc (Nat.le_refl _) (.cells #[.int .i64 0, .int .i64 0, .int .i64 0, .int .i64 0, .bool false] 62)
  have hI1 := hI.keep hA
  have hR1 := PlBox.new w
  obtain ⟨W0, hW0⟩ : ∃ W0, w.alloc (.cells #[.int .i64 0, .int .i64 0, .int .i64 0, .int .i64 0, .bool false] 62) = W0 := ⟨_, rfl⟩
  rw [hW0] at hA hI1 hR1
  have hRg := Lib.hid (fun w1 => refRgt_t (n : Nat) w1 (by omega) (by omega))
  obtain ⟨hcl, h15⟩ := ofN_none ho
  have hOf := Lib.hid (fun w1 => show Calls Tryd.prog 57 #[.int .i64 (n : Nat)] w1 (fun e w' => e = .returned (.int .i64 (-1)) ∧ w1 = w') from by have h := refOf_any (n : Nat) w1; rw [hcl] at h; exact h)
  have hm1 : 1 ≤ chN n := by unfold chN; omega
  have hm2 : chN n ≤ 8191 := by unfold chN; omega
  have hCk := Lib.hid (fun w1 => show Calls Tryd.prog 56 #[.int .i64 (n : Nat)] w1 (fun e w' => e = .returned (.int .i64 (chN n : Nat)) ∧ w1 = w') from by have h := refChk_any (n : Nat) w1; rw [chk_N h15 hn] at h; exact h)
  generalize chN n = m at *
  have hRow := Lib.hid (fun w1 (hb : Below W0.heap.size W0 w1) => row_any (hI1.keep hb) hS hl m hm1 hm2)
  obtain ⟨nn, hnn⟩ : ∃ n, S.length = n := ⟨_, rfl⟩
  have hn9 : nn ≤ 10000 := by omega
  have hX := Lib.hid (fun w1 (hb : Below W0.heap.size W0 w1) => (hI1.keep hb).box.cell)
  have hY := Lib.hid (fun w1 (hb : Below W0.heap.size W0 w1) => hI1.keep hb)
  have hZ := Lib.hid (fun w1 (hb : Below W0.heap.size W0 w1) => hR1.keep hb)
  obtain ⟨R, hR⟩ : ∃ R, w.heap.size = R := ⟨_, rfl⟩
  have hBR : ¬ B = R := by have := hI.box.lt; omega
  have hvR : ∀ k, v.ownBlock = some k → ¬ k = R := fun k q e => by have := (hI.row.lt k q).2; omega
  rw [hR] at hR1 hZ
  obtain ⟨A, cap, rfl⟩ := hI.form hnn
  have hg0 := Lib.hid (fun (h : 0 < nn) => show ∃ g, A = some ⟨g, 0, none⟩ from by
    obtain ⟨g, c2, h, _⟩ := hI.row.form (by omega)
    simp only [Value.slice.injEq] at h
    exact ⟨g, h.1⟩)
  have h1m : (1 : Int) < (m : Int) := by omega
  replace hnn := Lib.hid hnn
  clear hI hl ho hcl hI1 hR1 hn h15
  replace h2 := Lib.hid h2
  go_enter Tryd.func40, Tryd.ntmps40
  go_wp2_with (first | (go_at_call 76; ((with_reducible refine (hRg.out _).mono ?_); rintro e w' ⟨rfl, rfl⟩)) | (go_at_call 57; ((with_reducible refine (hOf.out _).mono ?_); rintro e w' ⟨rfl, rfl⟩)) | (go_at_call 56; ((with_reducible refine (hCk.out _).mono ?_); rintro e w' ⟨rfl, rfl⟩)) | (go_at_call 32; ((with_reducible refine (hMn.out _).mono ?_); rintro e w' ⟨rfl, rfl⟩)))
  replace hW0 := Lib.hid hW0
  go_loopw [8] (fun i wr => i = .int .i64 0 ∧ Below W0.heap.size W0 wr) (fun i _ => 0)
  case atStart => exact ⟨rfl, by cases hW0.out; exact Below.refl _ _⟩
  case round =>
    obtain ⟨rfl, hB⟩ := hrel
    have x0 := hX.out wr hB
    have hRr := hRow.out wr hB
    by_cases hn0 : 0 < nn
    · have hn0' : (0 : Int) < (nn : Int) := by omega
      go_wp2_with (first | (go_at_call 76; ((with_reducible refine (hRg.out _).mono ?_); rintro e w' ⟨rfl, rfl⟩)) | (go_at_call 57; ((with_reducible refine (hOf.out _).mono ?_); rintro e w' ⟨rfl, rfl⟩)) | (go_at_call 56; ((with_reducible refine (hCk.out _).mono ?_); rintro e w' ⟨rfl, rfl⟩)) | (go_at_call 32; ((with_reducible refine (hMn.out _).mono ?_); rintro e w' ⟨rfl, rfl⟩)))
      refine hRr.mono ?_
      rintro e w5 ⟨rfl, hb⟩
      have hB5 := hB.trans (hb.mono hB.size)
      clear hRr hb hB x0
      rcases rowV_cases (S := S) hm1 with ⟨e1, e2⟩ | ⟨i, e1, e2, e3⟩
      · rw [e1]
        have hT := Lib.hid (show TakeR S none m S none from TakeR.fullH e2)
        have hP := hY.out w5 hB5
        have hRn := hZ.out w5 hB5
        have hCn := (Chg.of_below (fun k => Value.ownBlock (.slice A nn cap) = some k) hA).trans (Chg.of_below (fun k => Value.ownBlock (.slice A nn cap) = some k) hB5) (fun j q => .inl q)
        have hThR := Lib.hid hRn.there
        obtain ⟨⟨y0, y1, y2, y3, y4⟩, hch⟩ := hRn.put 0 0 0 0 false
        have hIe := hP.chg hch hBR hvR
        have hCe := hCn.trans hch (fun j q => .inr (by rw [q, ← hR]; exact Nat.le_refl _))
        obtain ⟨W2, hW2⟩ : ∃ W2, plW w5 R 0 0 0 0 false = W2 := ⟨_, rfl⟩
        rw [hW2] at y0 y1 y2 y3 y4 hIe hCe
        replace hIe := Lib.hid hIe
        replace hCe := Lib.hid hCe
        replace hW2 := Lib.hid hW2
        clear hP hRn hCn hch e1 e2
        replace hR := Lib.hid hR
        clear hA hB5
        go_wp2_with (refine wpList_store_mid rfl _ _ _ rfl R 0 #[.int .i64 0, .int .i64 0, .int .i64 0, .int .i64 0, .bool false] rfl rfl hThR.out infoPl5 (one5 _ _ _ _ _) ?_; rw [show (w5).setCells R 0 (#[.int .i64 0, .int .i64 0, .int .i64 0, .int .i64 0, .bool false] : Array Value).toList = W2 from hW2.out])
        refine bodyPost_ret (v := .tuple #[plV 0 0 0 0 false, .int .i64 2]) ?_ rfl ⟨_, _, hT.out, rfl, hIe.out, hCe.out⟩
        simp [results, Tryd.f40, go_sem, y0, y1, y2, y3, y4]
      · rw [e1]
        have him : i + m ≤ nn := by have := e2.1; have := hnn.out; omega
        have t5 : decide ((i : Int) < 0) = false := decide_eq_false (by omega)
        have t6 : ¬ (i : Int) < 0 := by omega
        have t7 : (i : Int) < (nn : Int) := by omega
        have hi : i < nn := by omega
        obtain ⟨g, rfl⟩ := hg0.out (by omega)
        have hgR : ¬ R = g := fun e => hvR g rfl e.symm
        have hT := Lib.hid (show TakeR S none m ((fillS S (i + 1) (3, 0, 0) (m - 1)).set i (2 + 2048 * m, 0, 1)) (some ⟨i, 0, -1, m, false⟩) from TakeR.huge e2 e3)
        have hY5 := hY.out w5 hB5
        have hR5 := hZ.out w5 hB5
        have hC5 := ((Chg.of_below (fun k => k = g) hA).trans (Chg.of_below (fun k => k = g) hB5) (fun j q => .inl q))
        clear e1 e2 e3 hA hB5
        replace hR := Lib.hid hR
        go_wp2_with fail
        go_loopw [12] (fun u wr => ∃ (p : Nat), 1 ≤ p ∧ p ≤ m ∧ u = .int .i64 p ∧ YAt wr base B (.slice (some ⟨g, 0, none⟩) nn cap) (fillS S (i + 1) (3, 0, 0) (p - 1)) ∧ PlBox wr R ∧ Chg (fun k => k = g) w wr) (fun u _ => m + 1 - (intOf u).toNat)
        case atStart => exact ⟨1, by omega, by omega, by go_num, hY5, hR5, hC5⟩
        case round =>
          obtain ⟨p, hp1, hp2, rfl, hYr, hRr, hCr⟩ := hrel
          clear hY5 hR5 hC5
          obtain ⟨q, rfl⟩ : ∃ q, p = q + 1 := ⟨p - 1, by omega⟩
          have xB := hYr.box.cell
          have hl' : (fillS S (i + 1) (3, 0, 0) (q + 1 - 1)).length = nn := by rw [fill_len]; exact hnn.out
          by_cases hlt : q + 1 < m
          · obtain ⟨e, he2⟩ : ∃ e, e = i + 1 + q := ⟨_, rfl⟩
            have wik : IntKind.i64.wrap ((i : Int) + ((q + 1 : Nat) : Int)) = (e : Int) := by rw [IntKind.wrap_i64]; omega
            have wik2 : IntKind.i64.wrap ((i : Int) + ((q : Int) + 1)) = (e : Int) := by rw [IntKind.wrap_i64]; omega
            have t2 : (e : Int) < (nn : Int) := by omega
            have hen : e < nn := by omega
            have hlt' : ((q + 1 : Nat) : Int) < (m : Int) := by omega
            have hTh := Lib.hid (hYr.there hl' hen)
            obtain ⟨hP, hCP⟩ := YAt.put hYr hl' hen (3, 0, 0)
            rw [show (fillS S (i + 1) (3, 0, 0) (q + 1 - 1)).set e (3, 0, 0) = fillS S (i + 1) (3, 0, 0) (q + 1 + 1 - 1) from by rw [he2]; rfl, dS_tail] at hP
            rw [dS_tail] at hCP
            have hRn := hRr.chg hCP hgR
            have hCn := hCr.trans hCP (fun j q => .inl q)
            obtain ⟨W, hW⟩ : ∃ W, wr.setCells g (e * 14) [.int .i64 3, .int .i64 0, .int .i64 0, .int .i64 0, .int .u64 0, .int .i64 0, .int .i64 0, .int .i64 0, .int .i64 0, .int .i64 0, .int .i64 0, .int .i64 0, .int .i64 0, .bool false] = W := ⟨_, rfl⟩
            rw [hW] at hP hRn hCn
            replace hW := Lib.hid hW
            replace he2 := Lib.hid he2
            clear hYr hRr hCr hCP hl'
            go_wp2_with (refine wpList_store_mid rfl _ _ _ rfl g (e * 14) #[.int .i64 3, .int .i64 0, .int .i64 0, .int .i64 0, .int .u64 0, .int .i64 0, .int .i64 0, .int .i64 0, .int .i64 0, .int .i64 0, .int .i64 0, .int .i64 0, .int .i64 0, .bool false] rfl rfl hTh.out infoD14 (oneD _ _ _ _ _ _ _ _ _ _ _ _ _ _) ?_; rw [show (wr).setCells g (e * 14) (#[.int .i64 3, .int .i64 0, .int .i64 0, .int .i64 0, .int .u64 0, .int .i64 0, .int .i64 0, .int .i64 0, .int .i64 0, .int .i64 0, .int .i64 0, .int .i64 0, .int .i64 0, .bool false] : Array Value).toList = W from hW.out])
            go_roundw
            case rel => exact ⟨q + 1 + 1, by omega, by omega, by go_num, hP, hRn, hCn⟩
            case measure => first | (simp [intOf]; done) | (simp [intOf]; omega)
          · have hlt' : ¬ ((q + 1 : Nat) : Int) < (m : Int) := by omega
            have hTh := Lib.hid (hYr.there hl' hi)
            obtain ⟨hP, hCP⟩ := YAt.put hYr hl' hi (2 + 2048 * m, 0, 1)
            rw [show q + 1 - 1 = m - 1 by omega] at hP
            rw [dS_hug hm2] at hP hCP
            have hRn := hRr.chg hCP hgR
            have hCn := hCr.trans hCP (fun j q => .inl q)
            obtain ⟨W, hW⟩ : ∃ W, wr.setCells g (i * 14) [.int .i64 2, .int .i64 0, .int .i64 0, .int .i64 (m : Nat), .int .u64 0, .int .i64 0, .int .i64 0, .int .i64 0, .int .i64 0, .int .i64 0, .int .i64 0, .int .i64 0, .int .i64 0, .bool true] = W := ⟨_, rfl⟩
            rw [hW] at hP hRn hCn
            replace hW := Lib.hid hW
            replace hR := hR.out
            have hThR := Lib.hid hRn.there
            obtain ⟨⟨y0, y1, y2, y3, y4⟩, hch⟩ := hRn.put (i : Nat) 0 (-1) (m : Nat) false
            have hIe := hP.chg hch hBR (fun k q => by cases q; exact fun q => hgR q.symm)
            have hCe := hCn.trans hch (fun j q => .inr (by rw [q, ← hR]; exact Nat.le_refl _))
            obtain ⟨W2, hW2⟩ : ∃ W2, plW W R (i : Nat) 0 (-1) (m : Nat) false = W2 := ⟨_, rfl⟩
            rw [hW2] at y0 y1 y2 y3 y4 hIe hCe
            replace hIe := Lib.hid hIe
            replace hCe := Lib.hid hCe
            replace hW2 := Lib.hid hW2
            clear hP hRn hCn hch
            replace hR := Lib.hid hR
            clear hYr hRr hCr hCP hl'
            go_wp2_with (first | (refine wpList_store_mid rfl _ _ _ rfl g (i * 14) #[.int .i64 2, .int .i64 0, .int .i64 0, .int .i64 (m : Nat), .int .u64 0, .int .i64 0, .int .i64 0, .int .i64 0, .int .i64 0, .int .i64 0, .int .i64 0, .int .i64 0, .int .i64 0, .bool true] rfl rfl hTh.out infoD14 (oneD _ _ _ _ _ _ _ _ _ _ _ _ _ _) ?_; rw [show (wr).setCells g (i * 14) (#[.int .i64 2, .int .i64 0, .int .i64 0, .int .i64 (m : Nat), .int .u64 0, .int .i64 0, .int .i64 0, .int .i64 0, .int .i64 0, .int .i64 0, .int .i64 0, .int .i64 0, .int .i64 0, .bool true] : Array Value).toList = W from hW.out]) | (refine wpList_store_mid rfl _ _ _ rfl R 0 #[.int .i64 (i : Nat), .int .i64 0, .int .i64 (-1), .int .i64 (m : Nat), .bool false] rfl rfl hThR.out infoPl5 (one5 _ _ _ _ _) ?_; rw [show (W).setCells R 0 (#[.int .i64 (i : Nat), .int .i64 0, .int .i64 (-1), .int .i64 (m : Nat), .bool false] : Array Value).toList = W2 from hW2.out]))
            refine bodyPost_ret (v := .tuple #[plV (i : Nat) 0 (-1) (m : Nat) false, .int .i64 0]) ?_ rfl ⟨_, _, hT.out, rfl, hIe.out, chgOwn hCe.out⟩
            simp [results, Tryd.f40, go_sem, y0, y1, y2, y3, y4]
    · have hn0' : ¬ (0 : Int) < (nn : Int) := by omega
      go_wp2_with (first | (go_at_call 76; ((with_reducible refine (hRg.out _).mono ?_); rintro e w' ⟨rfl, rfl⟩)) | (go_at_call 57; ((with_reducible refine (hOf.out _).mono ?_); rintro e w' ⟨rfl, rfl⟩)) | (go_at_call 56; ((with_reducible refine (hCk.out _).mono ?_); rintro e w' ⟨rfl, rfl⟩)) | (go_at_call 32; ((with_reducible refine (hMn.out _).mono ?_); rintro e w' ⟨rfl, rfl⟩)))
      refine hRr.mono ?_
      rintro e w5 ⟨rfl, hb⟩
      have hB5 := hB.trans (hb.mono hB.size)
      clear hRr hb hB x0
      rcases rowV_cases (S := S) hm1 with ⟨e1, e2⟩ | ⟨i, e1, e2, e3⟩
      · rw [e1]
        have hT := Lib.hid (show TakeR S none m S none from TakeR.fullH e2)
        have hP := hY.out w5 hB5
        have hRn := hZ.out w5 hB5
        have hCn := (Chg.of_below (fun k => Value.ownBlock (.slice A nn cap) = some k) hA).trans (Chg.of_below (fun k => Value.ownBlock (.slice A nn cap) = some k) hB5) (fun j q => .inl q)
        have hThR := Lib.hid hRn.there
        obtain ⟨⟨y0, y1, y2, y3, y4⟩, hch⟩ := hRn.put 0 0 0 0 false
        have hIe := hP.chg hch hBR hvR
        have hCe := hCn.trans hch (fun j q => .inr (by rw [q, ← hR]; exact Nat.le_refl _))
        obtain ⟨W2, hW2⟩ : ∃ W2, plW w5 R 0 0 0 0 false = W2 := ⟨_, rfl⟩
        rw [hW2] at y0 y1 y2 y3 y4 hIe hCe
        replace hIe := Lib.hid hIe
        replace hCe := Lib.hid hCe
        replace hW2 := Lib.hid hW2
        clear hP hRn hCn hch e1 e2
        replace hR := Lib.hid hR
        clear hA hB5
        go_wp2_with (refine wpList_store_mid rfl _ _ _ rfl R 0 #[.int .i64 0, .int .i64 0, .int .i64 0, .int .i64 0, .bool false] rfl rfl hThR.out infoPl5 (one5 _ _ _ _ _) ?_; rw [show (w5).setCells R 0 (#[.int .i64 0, .int .i64 0, .int .i64 0, .int .i64 0, .bool false] : Array Value).toList = W2 from hW2.out])
        refine bodyPost_ret (v := .tuple #[plV 0 0 0 0 false, .int .i64 2]) ?_ rfl ⟨_, _, hT.out, rfl, hIe.out, hCe.out⟩
        simp [results, Tryd.f40, go_sem, y0, y1, y2, y3, y4]
      · exfalso; have := e2.1; have := hnn.out; omega
set_option maxRecDepth 10000 in
set_option maxHeartbeats 2000000 in
theorem dtake_huge1 {w : World} {base B : Nat} {v : Value} {S : List St} (hI : YAt w base B v S) (hS : SOk S) (hl : S.length ≤ 10000) (n : Nat) (hn : n ≤ 4096) (ho : ofN n = none) (h2 : chN n = 1) :
    Calls Tryd.prog 40 #[.pointer (some ⟨B, 0, none⟩), .int .i64 (n : Nat)] w (DTakeP w base B v S none 1) := by
  have hA := (Below.refl w.heap.size w).alloc (Nat.le_refl _) (.cells #[.int .i64 0, .int .i64 0, .int .i64 0, .int .i64 0, .bool false] 62)
  have hI1 := hI.keep hA
  have hR1 := PlBox.new w
  obtain ⟨W0, hW0⟩ : ∃ W0, w.alloc (.cells #[.int .i64 0, .int .i64 0, .int .i64 0, .int .i64 0, .bool false] 62) = W0 := ⟨_, rfl⟩
  rw [hW0] at hA hI1 hR1
  have hRg := Lib.hid (fun w1 => refRgt_t (n : Nat) w1 (by omega) (by omega))
  obtain ⟨hcl, h15⟩ := ofN_none ho
  have hOf := Lib.hid (fun w1 => show Calls Tryd.prog 57 #[.int .i64 (n : Nat)] w1 (fun e w' => e = .returned (.int .i64 (-1)) ∧ w1 = w') from by have h := refOf_any (n : Nat) w1; rw [hcl] at h; exact h)
  have hm1 : 1 ≤ 1 := Nat.le_refl _
  have hm2 : 1 ≤ 8191 := by omega
  have hCk := Lib.hid (fun w1 => show Calls Tryd.prog 56 #[.int .i64 (n : Nat)] w1 (fun e w' => e = .returned (.int .i64 1) ∧ w1 = w') from by have h := refChk_any (n : Nat) w1; rw [chk_N h15 hn, h2] at h; exact h)
  have hRow := Lib.hid (fun w1 (hb : Below W0.heap.size W0 w1) => show Calls Tryd.prog 77 #[.pointer (some ⟨B, 0, none⟩), .int .i64 1] w1 (fun e w' => e = .returned (.int .i64 (rowV S 1)) ∧ Below w1.heap.size w1 w') from row_any (hI1.keep hb) hS hl 1 (by omega) (by omega))
  obtain ⟨nn, hnn⟩ : ∃ n, S.length = n := ⟨_, rfl⟩
  have hn9 : nn ≤ 10000 := by omega
  have hX := Lib.hid (fun w1 (hb : Below W0.heap.size W0 w1) => (hI1.keep hb).box.cell)
  have hY := Lib.hid (fun w1 (hb : Below W0.heap.size W0 w1) => hI1.keep hb)
  have hZ := Lib.hid (fun w1 (hb : Below W0.heap.size W0 w1) => hR1.keep hb)
  obtain ⟨R, hR⟩ : ∃ R, w.heap.size = R := ⟨_, rfl⟩
  have hBR : ¬ B = R := by have := hI.box.lt; omega
  have hvR : ∀ k, v.ownBlock = some k → ¬ k = R := fun k q e => by have := (hI.row.lt k q).2; omega
  rw [hR] at hR1 hZ
  obtain ⟨A, cap, rfl⟩ := hI.form hnn
  have hg0 := Lib.hid (fun (h : 0 < nn) => show ∃ g, A = some ⟨g, 0, none⟩ from by
    obtain ⟨g, c2, h, _⟩ := hI.row.form (by omega)
    simp only [Value.slice.injEq] at h
    exact ⟨g, h.1⟩)
  replace hnn := Lib.hid hnn
  clear hI hl ho hcl hI1 hR1 hn h15 h2
  go_enter Tryd.func40, Tryd.ntmps40
  go_wp2_with (first | (go_at_call 76; ((with_reducible refine (hRg.out _).mono ?_); rintro e w' ⟨rfl, rfl⟩)) | (go_at_call 57; ((with_reducible refine (hOf.out _).mono ?_); rintro e w' ⟨rfl, rfl⟩)) | (go_at_call 56; ((with_reducible refine (hCk.out _).mono ?_); rintro e w' ⟨rfl, rfl⟩)) | (go_at_call 32; ((with_reducible refine (hMn.out _).mono ?_); rintro e w' ⟨rfl, rfl⟩)))
  replace hW0 := Lib.hid hW0
  go_loopw [8] (fun i wr => i = .int .i64 0 ∧ Below W0.heap.size W0 wr) (fun i _ => 0)
  case atStart => exact ⟨rfl, by cases hW0.out; exact Below.refl _ _⟩
  case round =>
    obtain ⟨rfl, hB⟩ := hrel
    have x0 := hX.out wr hB
    have hRr := hRow.out wr hB
    by_cases hn0 : 0 < nn
    · have hn0' : (0 : Int) < (nn : Int) := by omega
      go_wp2_with (first | (go_at_call 76; ((with_reducible refine (hRg.out _).mono ?_); rintro e w' ⟨rfl, rfl⟩)) | (go_at_call 57; ((with_reducible refine (hOf.out _).mono ?_); rintro e w' ⟨rfl, rfl⟩)) | (go_at_call 56; ((with_reducible refine (hCk.out _).mono ?_); rintro e w' ⟨rfl, rfl⟩)) | (go_at_call 32; ((with_reducible refine (hMn.out _).mono ?_); rintro e w' ⟨rfl, rfl⟩)))
      refine hRr.mono ?_
      rintro e w5 ⟨rfl, hb⟩
      have hB5 := hB.trans (hb.mono hB.size)
      clear hRr hb hB x0
      rcases rowV_cases (S := S) hm1 with ⟨e1, e2⟩ | ⟨i, e1, e2, e3⟩
      · rw [e1]
        have hT := Lib.hid (show TakeR S none 1 S none from TakeR.fullH e2)
        have hP := hY.out w5 hB5
        have hRn := hZ.out w5 hB5
        have hCn := (Chg.of_below (fun k => Value.ownBlock (.slice A nn cap) = some k) hA).trans (Chg.of_below (fun k => Value.ownBlock (.slice A nn cap) = some k) hB5) (fun j q => .inl q)
        have hThR := Lib.hid hRn.there
        obtain ⟨⟨y0, y1, y2, y3, y4⟩, hch⟩ := hRn.put 0 0 0 0 false
        have hIe := hP.chg hch hBR hvR
        have hCe := hCn.trans hch (fun j q => .inr (by rw [q, ← hR]; exact Nat.le_refl _))
        obtain ⟨W2, hW2⟩ : ∃ W2, plW w5 R 0 0 0 0 false = W2 := ⟨_, rfl⟩
        rw [hW2] at y0 y1 y2 y3 y4 hIe hCe
        replace hIe := Lib.hid hIe
        replace hCe := Lib.hid hCe
        replace hW2 := Lib.hid hW2
        clear hP hRn hCn hch e1 e2
        replace hR := Lib.hid hR
        clear hA hB5
        go_wp2_with (refine wpList_store_mid rfl _ _ _ rfl R 0 #[.int .i64 0, .int .i64 0, .int .i64 0, .int .i64 0, .bool false] rfl rfl hThR.out infoPl5 (one5 _ _ _ _ _) ?_; rw [show (w5).setCells R 0 (#[.int .i64 0, .int .i64 0, .int .i64 0, .int .i64 0, .bool false] : Array Value).toList = W2 from hW2.out])
        refine bodyPost_ret (v := .tuple #[plV 0 0 0 0 false, .int .i64 2]) ?_ rfl ⟨_, _, hT.out, rfl, hIe.out, hCe.out⟩
        simp [results, Tryd.f40, go_sem, y0, y1, y2, y3, y4]
      · rw [e1]
        have him : i + 1 ≤ nn := by have := e2.1; have := hnn.out; omega
        have t5 : decide ((i : Int) < 0) = false := decide_eq_false (by omega)
        have t6 : ¬ (i : Int) < 0 := by omega
        have t7 : (i : Int) < (nn : Int) := by omega
        have hi : i < nn := by omega
        obtain ⟨g, rfl⟩ := hg0.out (by omega)
        have hgR : ¬ R = g := fun e => hvR g rfl e.symm
        have hT := Lib.hid (show TakeR S none 1 (S.set i (2 + 2048 * 1, 0, 1)) (some ⟨i, 0, -1, 1, false⟩) from TakeR.huge e2 e3)
        have hY5 := hY.out w5 hB5
        have hR5 := hZ.out w5 hB5
        have hC5 := ((Chg.of_below (fun k => k = g) hA).trans (Chg.of_below (fun k => k = g) hB5) (fun j q => .inl q))
        clear e1 e2 e3 hA hB5
        replace hR := Lib.hid hR
        go_wp2_with fail
        go_loopw [12] (fun u wr => u = .int .i64 1 ∧ YAt wr base B (.slice (some ⟨g, 0, none⟩) nn cap) S ∧ PlBox wr R ∧ Chg (fun k => k = g) w wr) (fun u _ => 0)
        case atStart => exact ⟨rfl, hY5, hR5, hC5⟩
        case round =>
          obtain ⟨rfl, hYr, hRr, hCr⟩ := hrel
          clear hY5 hR5 hC5
          have xB := hYr.box.cell
          have hl' := hnn.out
          have hTh := Lib.hid (hYr.there hl' hi)
          obtain ⟨hP, hCP⟩ := YAt.put hYr hl' hi (2 + 2048 * 1, 0, 1)
          rw [dS_hug (m := 1) (by omega), show (((1 : Nat)) : Int) = 1 from rfl] at hP hCP
          have hRn := hRr.chg hCP hgR
          have hCn := hCr.trans hCP (fun j q => .inl q)
          obtain ⟨W, hW⟩ : ∃ W, wr.setCells g (i * 14) [.int .i64 2, .int .i64 0, .int .i64 0, .int .i64 1, .int .u64 0, .int .i64 0, .int .i64 0, .int .i64 0, .int .i64 0, .int .i64 0, .int .i64 0, .int .i64 0, .int .i64 0, .bool true] = W := ⟨_, rfl⟩
          rw [hW] at hP hRn hCn
          replace hW := Lib.hid hW
          replace hR := hR.out
          have hThR := Lib.hid hRn.there
          obtain ⟨⟨y0, y1, y2, y3, y4⟩, hch⟩ := hRn.put (i : Nat) 0 (-1) 1 false
          have hIe := hP.chg hch hBR (fun k q => by cases q; exact fun q => hgR q.symm)
          have hCe := hCn.trans hch (fun j q => .inr (by rw [q, ← hR]; exact Nat.le_refl _))
          obtain ⟨W2, hW2⟩ : ∃ W2, plW W R (i : Nat) 0 (-1) 1 false = W2 := ⟨_, rfl⟩
          rw [hW2] at y0 y1 y2 y3 y4 hIe hCe
          replace hIe := Lib.hid hIe
          replace hCe := Lib.hid hCe
          replace hW2 := Lib.hid hW2
          clear hP hRn hCn hch
          replace hR := Lib.hid hR
          clear hYr hRr hCr hCP hl'
          go_wp2_with (first | (refine wpList_store_mid rfl _ _ _ rfl g (i * 14) #[.int .i64 2, .int .i64 0, .int .i64 0, .int .i64 1, .int .u64 0, .int .i64 0, .int .i64 0, .int .i64 0, .int .i64 0, .int .i64 0, .int .i64 0, .int .i64 0, .int .i64 0, .bool true] rfl rfl hTh.out infoD14 (oneD _ _ _ _ _ _ _ _ _ _ _ _ _ _) ?_; rw [show (wr).setCells g (i * 14) (#[.int .i64 2, .int .i64 0, .int .i64 0, .int .i64 1, .int .u64 0, .int .i64 0, .int .i64 0, .int .i64 0, .int .i64 0, .int .i64 0, .int .i64 0, .int .i64 0, .int .i64 0, .bool true] : Array Value).toList = W from hW.out]) | (refine wpList_store_mid rfl _ _ _ rfl R 0 #[.int .i64 (i : Nat), .int .i64 0, .int .i64 (-1), .int .i64 1, .bool false] rfl rfl hThR.out infoPl5 (one5 _ _ _ _ _) ?_; rw [show (W).setCells R 0 (#[.int .i64 (i : Nat), .int .i64 0, .int .i64 (-1), .int .i64 1, .bool false] : Array Value).toList = W2 from hW2.out]))
          refine bodyPost_ret (v := .tuple #[plV (i : Nat) 0 (-1) 1 false, .int .i64 0]) ?_ rfl ⟨_, _, hT.out, rfl, hIe.out, chgOwn hCe.out⟩
          simp [results, Tryd.f40, go_sem, y0, y1, y2, y3, y4]
    · have hn0' : ¬ (0 : Int) < (nn : Int) := by omega
      go_wp2_with (first | (go_at_call 76; ((with_reducible refine (hRg.out _).mono ?_); rintro e w' ⟨rfl, rfl⟩)) | (go_at_call 57; ((with_reducible refine (hOf.out _).mono ?_); rintro e w' ⟨rfl, rfl⟩)) | (go_at_call 56; ((with_reducible refine (hCk.out _).mono ?_); rintro e w' ⟨rfl, rfl⟩)) | (go_at_call 32; ((with_reducible refine (hMn.out _).mono ?_); rintro e w' ⟨rfl, rfl⟩)))
      refine hRr.mono ?_
      rintro e w5 ⟨rfl, hb⟩
      have hB5 := hB.trans (hb.mono hB.size)
      clear hRr hb hB x0
      rcases rowV_cases (S := S) hm1 with ⟨e1, e2⟩ | ⟨i, e1, e2, e3⟩
      · rw [e1]
        have hT := Lib.hid (show TakeR S none 1 S none from TakeR.fullH e2)
        have hP := hY.out w5 hB5
        have hRn := hZ.out w5 hB5
        have hCn := (Chg.of_below (fun k => Value.ownBlock (.slice A nn cap) = some k) hA).trans (Chg.of_below (fun k => Value.ownBlock (.slice A nn cap) = some k) hB5) (fun j q => .inl q)
        have hThR := Lib.hid hRn.there
        obtain ⟨⟨y0, y1, y2, y3, y4⟩, hch⟩ := hRn.put 0 0 0 0 false
        have hIe := hP.chg hch hBR hvR
        have hCe := hCn.trans hch (fun j q => .inr (by rw [q, ← hR]; exact Nat.le_refl _))
        obtain ⟨W2, hW2⟩ : ∃ W2, plW w5 R 0 0 0 0 false = W2 := ⟨_, rfl⟩
        rw [hW2] at y0 y1 y2 y3 y4 hIe hCe
        replace hIe := Lib.hid hIe
        replace hCe := Lib.hid hCe
        replace hW2 := Lib.hid hW2
        clear hP hRn hCn hch e1 e2
        replace hR := Lib.hid hR
        clear hA hB5
        go_wp2_with (refine wpList_store_mid rfl _ _ _ rfl R 0 #[.int .i64 0, .int .i64 0, .int .i64 0, .int .i64 0, .bool false] rfl rfl hThR.out infoPl5 (one5 _ _ _ _ _) ?_; rw [show (w5).setCells R 0 (#[.int .i64 0, .int .i64 0, .int .i64 0, .int .i64 0, .bool false] : Array Value).toList = W2 from hW2.out])
        refine bodyPost_ret (v := .tuple #[plV 0 0 0 0 false, .int .i64 2]) ?_ rfl ⟨_, _, hT.out, rfl, hIe.out, hCe.out⟩
        simp [results, Tryd.f40, go_sem, y0, y1, y2, y3, y4]
      · exfalso; have := e2.1; have := hnn.out; omega
set_option maxRecDepth 10000 in
set_option maxHeartbeats 1000000 in
theorem dtake_wrong {w : World} {B : Nat} (n : Int) (hn : n < 0 ∨ 4096 < n) :
    Calls Tryd.prog 40 #[.pointer (some ⟨B, 0, none⟩), .int .i64 n] w fun e w' => e = .returned (.tuple #[plV 0 0 0 0 false, .int .i64 1]) ∧ Below w.heap.size w w' := by
  have hA := (Below.refl w.heap.size w).alloc (Nat.le_refl _) (.cells #[.int .i64 0, .int .i64 0, .int .i64 0, .int .i64 0, .bool false] 62)
  have hR1 := PlBox.new w
  have hRg := refRgt_f n (w.alloc (.cells #[.int .i64 0, .int .i64 0, .int .i64 0, .int .i64 0, .bool false] 62)) hn
  obtain ⟨R, hR⟩ : ∃ R, w.heap.size = R := ⟨_, rfl⟩
  have hThR := Lib.hid hR1.there
  obtain ⟨⟨y0, y1, y2, y3, y4⟩, hch⟩ := hR1.put 0 0 0 0 false
  have hBW : Below w.heap.size w (plW (w.alloc (.cells #[.int .i64 0, .int .i64 0, .int .i64 0, .int .i64 0, .bool false] 62)) w.heap.size 0 0 0 0 false) := hA.trans (hch.below (fun q h => by omega) hA.size)
  rw [hR] at hThR y0 y1 y2 y3 y4
  obtain ⟨W2, hW2⟩ : ∃ W2, plW (w.alloc (.cells #[.int .i64 0, .int .i64 0, .int .i64 0, .int .i64 0, .bool false] 62)) R 0 0 0 0 false = W2 := ⟨_, rfl⟩
  rw [← hR] at hW2
  rw [hW2] at hBW
  rw [hR] at hW2
  rw [hW2] at y0 y1 y2 y3 y4
  replace hBW := Lib.hid hBW
  replace hW2 := Lib.hid hW2
  clear hch hR1 hA hn
  go_enter Tryd.func40, Tryd.ntmps40
  go_wp2_with (first | (go_at_call 76; ((with_reducible refine hRg.mono ?_); rintro e w' ⟨rfl, rfl⟩)) | (refine wpList_store_mid rfl _ _ _ rfl R 0 #[.int .i64 0, .int .i64 0, .int .i64 0, .int .i64 0, .bool false] rfl rfl hThR.out infoPl5 (one5 _ _ _ _ _) ?_; rw [show ((w.alloc (.cells #[.int .i64 0, .int .i64 0, .int .i64 0, .int .i64 0, .bool false] 62))).setCells R 0 (#[.int .i64 0, .int .i64 0, .int .i64 0, .int .i64 0, .bool false] : Array Value).toList = W2 from hW2.out]))
  refine bodyPost_ret (v := .tuple #[plV 0 0 0 0 false, .int .i64 1]) ?_ rfl ⟨rfl, hBW.out⟩
  simp [results, Tryd.f40, go_sem, y0, y1, y2, y3, y4]
theorem dtake_any {w : World} {base B : Nat} {v : Value} {S : List St} (hI : YAt w base B v S) (hS : SOk S) (hl : S.length ≤ 10000) (n : Nat) (hn : n ≤ 4096) :
    Calls Tryd.prog 40 #[.pointer (some ⟨B, 0, none⟩), .int .i64 (n : Nat)] w (DTakeP w base B v S (ofN n) (chN n)) := by
  cases ho : ofN n with
  | some c => exact dtake_blk hI hS hl n hn ho (chN n)
  | none =>
    by_cases h1 : chN n = 1
    · rw [h1]; exact dtake_huge1 hI hS hl n hn ho h1
    · exact dtake_hugeM hI hS hl n hn ho (by have : 1 ≤ chN n := by unfold chN; omega
                                             omega)
end Go.Proofs.YtnjifmecaeagaaaDoor
end
