/-
  Part of the proof of SoundTells,SoundGiven.
-/
import Derived.Test.YtdmmbnnejbmdpaaGreatDoorVu912
import Derived.Test.YtdmmbnnejbmdpaaGreatDoorVu948
import Derived.Test.YtdmmbnnejbmdpaaGreatDoorVu90
set_option maxRecDepth 10000
set_option maxHeartbeats 8000000
set_option linter.unusedVariables false
set_option linter.unusedSimpArgs false
namespace Go.Proofs.YtdmmbnnejbmdpaaGreatDoor
open Go.Lib Go.RowKit Go.ChangeShapes Go.WideShapes Go.Deep Go.Shelf
def k1 : Sk := { a := 0, b := 0, tiles := [33], types := [], less := [], ep := 0, root := 1, fill := [] }
theorem k1_few : fewS k1 = true := by decide
theorem k1_B : SkB k1 := ⟨by decide, by decide, fun x hx => by rw [List.mem_singleton.1 hx]; decide, fun x hx => (by cases hx), fun x hx => (by cases hx), by decide, by decide, fun x hx => (by cases hx)⟩
theorem k1_len : (stockL k1).length = 116 := by decide +kernel
theorem k1_s : soundB (stockL k1) = true := by decide +kernel
theorem k1_n : soundB ((stockL k1).take 100) = false := by decide +kernel
theorem k1_o : (objL (stockL k1)).length = 1 ∧ ((objL (stockL k1)).getD 0 default).1 = (84, 1, 1) := by decide +kernel
theorem k1_r : rootO (stockL k1) = (84, 1, 1) := by decide +kernel
theorem KL.one16 (w : World) (x : Nat) : KL .u16 (w.alloc (.cells #[.int .u16 (x : Nat)] (32 : Nat))) (.slice (some ⟨w.heap.size, 0, none⟩) 1 1) [x] := h_kl ((OwnE.lit 32 eH_len w [x] _ rfl (by simp)).el eH_len)
theorem awake16 (w : World) (hw : Lw w) : Calls Tryz.prog 10 #[] w fun e w' => e = .returned (.bool true) ∧ Below w.heap.size w w' := by
 have e1 := bZ w (.cells #[.int .u16 ((33 : Nat) : Int)] (32 : Nat))
 have hk := KL.one16 w 33
 obtain ⟨wa, hwa⟩ : ∃ x, w.alloc (.cells #[.int .u16 ((33 : Nat) : Int)] (32 : Nat)) = x := ⟨_, rfl⟩
 rw [hwa] at e1 hk
 have hSk := Stocked_any k1 (.slice (some ⟨w.heap.size, 0, none⟩) 1 1) (.slice none 0 0) (.slice none 0 0) (.slice none 0 0) wa (hw.keep e1) ⟨hk, ⟨none, 0, rfl, fun h => absurd h (by decide)⟩, ⟨none, 0, rfl, fun h => absurd h (by decide)⟩, ⟨none, 0, rfl, fun h => absurd h (by decide)⟩⟩ k1_B k1_few
 replace hSk : Calls Tryz.prog 12 #[.agg #[.int .u8 0, .int .u8 0, .slice (some ⟨w.heap.size, 0, none⟩) 1 1, .slice none 0 0, .slice none 0 0, .int .u32 0, .int .u8 1, .slice none 0 0]] wa (fun e w' => ∃ v', e = .returned v' ∧ OwnU w' wa.heap.size v' (stockL k1) ∧ Hid (WL (stockL k1)) ∧ Below wa.heap.size wa w') := hSk
 have i1 := k1_len
 have i2 := k1_s
 have i3 := k1_n
 obtain ⟨i4, i5⟩ := k1_o
 have i6 := k1_r
 generalize stockL k1 = X at *
 have hOb := lh (fun v w1 (h1 : Lw w1) (h2 : KL .u64 w1 v X) (h3 : WL X) => Objects_any v X w1 h1 h3 h2 (by omega))
 have hS1 := lh (fun v w1 (h1 : Lw w1) (h2 : KL .u64 w1 v X) (h3 : WL X) => show Calls Tryz.prog 13 #[v] w1 (fun e w' => e = .returned (.int .i64 0) ∧ Below w1.heap.size w1 w') from by
  have h := sound_any v X w1 h1 h3 h2 (by omega)
  rw [if_pos i2] at h
  exact h)
 have hS2 := lh (fun v w1 (h1 : Lw w1) (h2 : KL .u64 w1 v (X.take 100)) (h3 : WL X) => show Calls Tryz.prog 13 #[v] w1 (fun e w' => e = .returned (.int .i64 7) ∧ Below w1.heap.size w1 w') from by
  have h := sound_any v (X.take 100) w1 h1 (fun x hx => h3 x (List.mem_of_mem_take hx)) h2 (by rw [List.length_take]; omega)
  rw [i3] at h
  exact h)
 have hRo := lh (fun v w1 (h1 : Lw w1) (h2 : KL .u64 w1 v X) (h3 : WL X) => show Calls Tryz.prog 18 #[v] w1 (fun e w' => e = .returned (.agg #[.int .i64 84, .int .i64 1, .int .u64 1]) ∧ Below w1.heap.size w1 w') from by
  have h := Root_any v X w1 h1 h3 h2 (by omega)
  rw [i6] at h
  exact h)
 obtain ⟨i0, hi, hz0, hz1, hz2⟩ := info_parts infoU64
 generalize objL X = O at hOb i4 i5
 have hwk := lh (fun w1 (hb : Below w.heap.size w w1) => hw.keep hb)
 replace i1 := lh i1
 clear i2 i3 i6 hk hw
 go_enter Tryz.func10, Tryz.ntmps10
 subst hwa
 go_wp2_with fail
 refine hSk.mono ?_
 rintro e w1 ⟨v1, rfl, hO1, hW, hb1⟩
 have hB1 := e1.trans (hb1.mono e1.size)
 obtain ⟨A1, c1, hv1, hf1⟩ := OwnU.form hO1
 rw [i1.out] at hv1 hf1
 cases hv1
 obtain ⟨B, rfl, -, -⟩ := hf1 (by decide)
 have hk1 := hO1.kl
 have hcap : 100 ≤ c1 := by
  obtain ⟨A9, c9, hv9, h9⟩ := hk1.form i1.out
  cases hv9
  obtain ⟨_, _, _, h2, _⟩ := h9 w1 0 (Below.refl _ _) (by decide)
  omega
 have hOb1 := hOb.out _ w1 (hwk.out _ hB1) hk1 hW.out
 clear hSk e1 hb1 hf1 hO1 hOb
 go_wp2_with fail
 refine hOb1.mono ?_
 rintro e w2 ⟨v2, rfl, hJ, hb2⟩
 have hB2 := hB1.trans (hb2.mono hB1.size)
 have hk2 := hk1.keep hb2
 obtain ⟨xs, hx1, hx2⟩ := hJ
 have hxl : xs.length = 1 := by rw [hx2.1, i4]
 obtain ⟨A2, c2, rfl, hF⟩ := EL.form (hx1.el eJ_len) hxl
 obtain ⟨g2, o2, rfl, hc2, hg2, -, hcell⟩ := hF w2 0 (Below.refl _ _) (by decide)
 have hx0 := (hx2.2 0 (by rw [i4]; decide)).1
 rw [i5] at hx0
 generalize hxe : xs.getD 0 default = x0 at *
 obtain ⟨xa, xb, xc, xd⟩ := x0
 simp only [Prod.mk.injEq] at hx0
 obtain ⟨rfl, rfl, rfl⟩ := hx0
 have j0 : w2.cell? ⟨g2, o2, none⟩ = some (.int .i64 84) := hcell 0 (by decide)
 have j1 : w2.cell? ⟨g2, o2 + 1, none⟩ = some (.int .i64 1) := hcell 1 (by decide)
 have j2 : w2.cell? ⟨g2, o2 + 2, none⟩ = some (.int .u64 1) := hcell 2 (by decide)
 have hCF := lh (fun w' (hb : Below w2.heap.size w2 w') => show w'.cell? ⟨g2, o2, none⟩ = some (.int .i64 84) ∧ w'.cell? ⟨g2, o2 + 1, none⟩ = some (.int .i64 1) ∧ w'.cell? ⟨g2, o2 + 2, none⟩ = some (.int .u64 1) from
  ⟨by rw [(bcell hb).1 _ _ hg2]; exact j0, by rw [(bcell hb).1 _ _ hg2]; exact j1, by rw [(bcell hb).1 _ _ hg2]; exact j2⟩)
 have hcapI : (100 : Int) ≤ (c1 : Int) := by omega
 have hS1' := lh (fun w' (hb : Below w2.heap.size w2 w') => hS1.out _ w' (hwk.out _ (hB2.trans (hb.mono hB2.size))) (hk2.keep hb) hW.out)
 have hS2' := lh (fun w' (hb : Below w2.heap.size w2 w') => hS2.out (.slice (some ⟨B, 0, none⟩) 100 c1) w' (hwk.out _ (hB2.trans (hb.mono hB2.size))) (KL.take (hk2.keep hb) 100 (by rw [i1.out]; decide)) hW.out)
 have hRo' := lh (fun w' (hb : Below w2.heap.size w2 w') => hRo.out _ w' (hwk.out _ (hB2.trans (hb.mono hB2.size))) (hk2.keep hb) hW.out)
 clear hS1 hS2 hRo hOb1 hb2 hk1 hcell hF hx1 hx2 j0 j1 j2
 go_wp2_with fail
 refine wp_region_held_drew (S := (fun w' => Below w2.heap.size w2 w')) (by kernel_rfl) (Below.refl _ _).drew (fun hHeld => ?_)
 refine takeH 0 ?_
 refine oneL 1 rfl (by kernel_rfl) (fun K hK => ?_)
 go_simp
 refine (hS1'.out _ hHeld).mono ?_; rintro e w5 ⟨rfl, hb⟩
 refine hK.out _ _ (hHeld.trans (hb.mono hHeld.size)) (fun hHeld2 => ?_)
 clear hK K hHeld
 have hHeld := hHeld2
 clear hHeld2
 try simp only [Act.put,sA,sB,sC]
 refine takeH 2 ?_
 refine takeH 3 ?_
 refine takeH 4 ?_
 refine takeH 5 ?_
 refine oneL 6 rfl (by kernel_rfl) (fun K hK => ?_)
 go_simp
 refine (hS2'.out _ hHeld).mono ?_; rintro e w6 ⟨rfl, hb⟩
 refine hK.out _ _ (hHeld.trans (hb.mono hHeld.size)) (fun hHeld2 => ?_)
 clear hK K hHeld
 have hHeld := hHeld2
 clear hHeld2
 try simp only [Act.put,sA,sB,sC]
 refine takeH 7 ?_
 refine takeH 8 ?_
 refine takeH 9 ?_
 refine takeH 10 ?_
 refine takeH 11 ?_
 refine takeH 12 ?_
 refine takeH 13 ?_
 refine takeH 14 ?_
 refine takeH 15 ?_
 refine takeH 16 ?_
 refine takeH 17 ?_
 refine takeH 18 ?_
 refine takeH 19 ?_
 refine takeH 20 ?_
 refine takeH 21 ?_
 refine takeH 22 ?_
 refine takeH 23 ?_
 refine takeH 25 ?_
 refine takeH 26 ?_
 refine takeH 27 ?_
 refine takeH 28 ?_
 refine oneL 24 rfl (by kernel_rfl) (fun K hK => ?_)
 go_simp
 refine (hRo'.out _ hHeld).mono ?_; rintro e w7 ⟨rfl, hb⟩
 refine hK.out _ _ (hHeld.trans (hb.mono hHeld.size)) (fun hHeld2 => ?_)
 clear hK K hHeld
 have hHeld := hHeld2
 clear hHeld2
 try simp only [Act.put,sA,sB,sC]
 refine takeH 29 ?_
 refine takeH 30 ?_
 refine takeH 31 ?_
 refine wpAnyH_done (by kernel_rfl) ?_ _
 have hBe := hB2.trans (hHeld.mono hB2.size)
 go_wp2_with fail
 go_ret
 exact ⟨by first | rfl | simp, hBe⟩
end Go.Proofs.YtdmmbnnejbmdpaaGreatDoor
