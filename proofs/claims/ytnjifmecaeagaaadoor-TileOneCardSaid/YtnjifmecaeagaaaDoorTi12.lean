/-
  The laws of package tile: TileOne, its walk.
-/
import Derived.Test.YtnjifmecaeagaaaDoorTi12m
set_option linter.unusedVariables false
set_option linter.unusedSimpArgs false
namespace Go.Proofs.YtnjifmecaeagaaaDoor
open Go.RowKit Go.ChangeShapes Go.WideShapes Go.Deep

set_option maxRecDepth 10000 in
set_option maxHeartbeats 2000000 in
theorem tileOne (v : Value) (l : List Nat) (n1 n2 : Nat) (w : World) (hw : Lw w) (hH : HL l) (hv : KL .u16 w v l) (h1 : n1 < 256) (h2 : n2 < 256) :
    Calls Tryd.prog 7 #[v, .int .u8 (n1 : Nat), .int .u8 (n2 : Nat)] w fun e w' => e = .returned (.bool true) ∧ Below w.heap.size w w' := by
  have hAw := awake11 w hw
  obtain ⟨nn, hnn⟩ : ∃ n, l.length = n := ⟨_, rfl⟩
  obtain ⟨A, cap, rfl, _⟩ := hv.form hnn
  by_cases h60 : 60 < nn
  · have h60' : (60 : Int) < (nn : Int) := by omega
    clear hv hw
    replace hnn := Lib.hid hnn
    go_enter Tryd.func7, Tryd.ntmps7
    go_wp2_with fail
    refine hAw.mono ?_
    rintro e w1 ⟨rfl, hb1⟩
    go_wp2_with fail
    go_ret
    exact ⟨rfl, hb1⟩
  have h60' : ¬ (60 : Int) < (nn : Int) := by omega
  have h60'' : decide ((60 : Int) < (nn : Int)) = false := decide_eq_false h60'
  have hM1 := Lib.hid (fun w1 (hb : Below w.heap.size w w1) => made_any _ l 40 w1 (hw.keep hb) hH (hv.keep hb) (by omega) (by omega))
  have hwh := Lib.hid hw
  replace hnn := Lib.hid hnn
  clear hv hw hH h60
  go_enter Tryd.func7, Tryd.ntmps7
  go_wp2_with fail
  refine hAw.mono ?_
  rintro e w1 ⟨rfl, hb1⟩
  have hMa := hM1.out _ hb1
  clear hAw hM1
  go_wp2_with fail
  refine hMa.mono ?_
  rintro e w2 ⟨v2, t, rfl, ho2, hrt, htl, hb2⟩
  have hB2 := hb1.trans (hb2.mono hb1.size)
  have hk2 := ho2.kl
  obtain ⟨n, hn⟩ : ∃ k, t.length = k := ⟨_, rfl⟩
  obtain ⟨At, ct, rfl⟩ := ho2.sl hn
  have hn40 : n ≤ 40 := by omega
  have hok := (rightT_t hrt).1
  have htW := rightT_WL hrt
  clear ho2 hMa hb1 hb2 hrt
  by_cases hn0 : n = 0
  · subst hn0
    clear hk2
    replace hn := Lib.hid hn
    go_wp2_with fail
    go_ret
    exact ⟨rfl, hB2⟩
  have hn0' : ¬ (n : Int) = 0 := by omega
  have hn0e : ((n : Int) == 0) = false := by rw [beq_eq_false_iff_ne]; exact hn0'
  obtain ⟨i, hi⟩ : ∃ i, n1 % n = i := ⟨_, rfl⟩
  have hin : i < n := by rw [← hi]; exact Nat.mod_lt _ (by omega)
  have e1 : (n1 : Int) % (n : Int) = (i : Int) := by rw [← hi]; rfl
  have e1t : (n1 : Int).tmod (n : Int) = (i : Int) := by rw [Int.tmod_eq_emod_of_nonneg (by omega)]; exact e1
  have e2 : IntKind.i64.wrap (n1 : Int) = (n1 : Int) := by rw [IntKind.wrap_i64]; omega
  have e3 : IntKind.i64.wrap (n2 : Int) = (n2 : Int) := by rw [IntKind.wrap_i64]; omega
  have e4 : (i : Int) < (n : Int) := by omega
  have e5 : IntKind.i64.wrap (i : Int) = (i : Int) := by rw [IntKind.wrap_i64]; omega
  obtain ⟨At2, ct2, he, hC⟩ := hk2.form hn
  simp only [Value.slice.injEq, true_and] at he
  obtain ⟨rfl, rfl⟩ := he
  obtain ⟨gt, ot, rfl, hcap, hgt, c0⟩ := hC w2 i (Below.refl _ _) hin
  have hxo := all_at hok (k := i) (by omega)
  have hxW := htW.at i (by omega)
  obtain ⟨x, hx⟩ : ∃ x, t.getD i 0 = x := ⟨_, rfl⟩
  rw [hx] at c0 hxo hxW
  have hDc := dcY x w2 (hwh.out.keep hB2) hxW hxo
  have hxr := okN_t hxo
  have hbd := parts_bd x
  have hwx := word_of x hxo
  clear hC hi
  replace hn := Lib.hid hn
  go_wp2_with fail
  refine hDc.mono ?_
  rintro e w3 ⟨rfl, hb3⟩
  have hB3 := hB2.trans (hb3.mono hB2.size)
  have hs23 := hb3.size
  replace hk2 := hk2.keep hb3
  replace c0 := cellK5 c0 hb3
  obtain ⟨K, hK⟩ : ∃ K : Int, ((kN x : Nat) : Int) = K := ⟨_, rfl⟩
  obtain ⟨z0, z1, z2, z3, z4⟩ := C5.new w3 (kN x : Nat) (cN x : Nat) (lnN x : Nat) (mN x : Nat) (bN x : Nat) 29
  have hA3 : Below w3.heap.size w3 (w3.alloc (.cells #[.int .i64 (kN x : Nat), .int .i64 (cN x : Nat), .int .i64 (lnN x : Nat), .int .i64 (mN x : Nat), .int .u64 (bN x : Nat)] 29)) := (Below.refl _ _).alloc (Nat.le_refl _) _
  clear hDc hb3
  by_cases k1 : kN x = 1
  rotate_left
  · have j1 : (((kN x : Nat) : Int) == 1) = false := by rw [beq_eq_false_iff_ne]; omega
    have j2 : ¬ ((kN x : Nat) : Int) = 1 := by omega
    clear hwx hxr hK
    go_wp2_with fail
    go_ret
    exact ⟨rfl, hB3.trans (hA3.mono hB3.size)⟩
  have j1 : ((kN x : Nat) : Int) = 1 := by omega
  have hc3 : cN x < 3 := by unfold RightN at hxr; omega
  have hl0 : lnN x = 0 := by unfold RightN at hxr; omega
  have hm0 : mN x = 0 := by unfold RightN at hxr; omega
  have hbM : bN x < 2 ^ mnN (cN x) := by
    unfold RightN at hxr
    have hcc : cN x = 0 ∨ cN x = 1 ∨ cN x = 2 := by omega
    rcases hcc with q | q | q
    · rw [q] at hxr ⊢; show bN x < 256; omega
    · rw [q] at hxr ⊢; show bN x < 16; omega
    · rw [q] at hxr ⊢; show bN x < 4; omega
  rw [j1, hl0, hm0, show (((0 : Nat) : Int)) = 0 from rfl] at hwx
  have hMy := refMny_any (cN x : Nat)
  rw [mny_N] at hMy
  have hBk := refBlk_any (cN x : Nat)
  rw [blk_N] at hBk
  rw [hl0, hm0, j1, show (((0 : Nat) : Int)) = 0 from rfl] at hA3 z0 z1 z2 z3 z4
  have hmp := two_le_mn hc3
  have hm8 := mnN_le (cN x)
  rw [j1, hl0, hm0, show (((0 : Nat) : Int)) = 0 from rfl]
  obtain ⟨k, hk⟩ : ∃ k, n2 % mnN (cN x) = k := ⟨_, rfl⟩
  have hkm : k < mnN (cN x) := by rw [← hk]; exact Nat.mod_lt _ (by omega)
  obtain ⟨x1, y1, o1, y1k, y1c, y1b⟩ := run_word (c := cN x) (b := bN x ||| 2 ^ k) hc3 (or_pow_lt hbM hkm)
  obtain ⟨x0, y0, o0, y0k, y0c, y0b⟩ := run_word (c := cN x) (b := clrN (bN x) (2 ^ k)) hc3 (clr_lt hbM)
  have hOr : bits .or .u64 (x : Int) (16777216 * pwI k) = (x1 : Int) := by rw [← hwx, word_or (cN x : Nat) (bN x) k (by omega) (by omega) hbd.2.2.2.2 (by omega)]; exact y1
  have hNot : bits .andNot .u64 (x : Int) (16777216 * pwI k) = (x0 : Int) := by rw [← hwx, word_not (cN x : Nat) (bN x) k (by omega) (by omega) hbd.2.2.2.2 (by omega), not_clr (bN x) hbd.2.2.2.2 k (by omega)]; exact y0
  obtain ⟨p, z, hOne⟩ := one_split (i := i) (k := k) (x1 := x1) (x0 := x0) hok (by rw [hn.out]; exact hin) hc3 hbd.2.2.2.2 hkm o1 y1k y1c y1b o0 y0k y0c y0b
  have hok1 := set_ok (i := i) hok o1
  have hok0 := set_ok (i := i) hok o0
  have hBt := Lib.hid (fun w (hw : Lw w) => bit_any k w hw (by omega))
  have e6 : (n2 : Int) % ((mnN (cN x) : Nat) : Int) = (k : Int) := by rw [← hk]; rfl
  have e6t : (n2 : Int).tmod ((mnN (cN x) : Nat) : Int) = (k : Int) := by rw [Int.tmod_eq_emod_of_nonneg (by omega)]; exact e6
  have hme0 : ¬ ((mnN (cN x) : Nat) : Int) = 0 := by omega
  have hme1 : (((mnN (cN x) : Nat) : Int) == 0) = false := by rw [beq_eq_false_iff_ne]; exact hme0
  have e7 : IntKind.i64.wrap (k : Int) = (k : Int) := by rw [IntKind.wrap_i64]; omega
  have hx1 : x1 < 4294967296 := okN_bd o1
  have hx0 : x0 < 4294967296 := okN_bd o0
  have hpw : 0 ≤ 16777216 * pwI k ∧ 16777216 * pwI k < 18446744073709551616 := by have := pwI_bd k (by omega); omega
  generalize mnN (cN x) = mm at *
  generalize blN (cN x) = bl at *
  generalize cN x = c at *
  generalize bN x = b at *
  generalize 16777216 * pwI k = BT at *
  replace hOne := Lib.hid hOne
  replace hok1 := Lib.hid hok1
  replace hok0 := Lib.hid hok0
  replace hok := Lib.hid hok
  replace htW := Lib.hid htW
  replace hx := Lib.hid hx
  replace hMy := Lib.hid hMy
  replace hBk := Lib.hid hBk
  clear hwx hxr hK hxo hbM y1 y0 y1k y1c y1b y0k y0c y0b hk hl0 hm0 o1 o0 k1 j1 hbd
  have hB4 := hB3.trans (hA3.mono hB3.size)
  have hk4 := hk2.keep hA3
  have c4 := cellK5 c0 hA3
  obtain ⟨B10, hB10⟩ : ∃ B, w3.heap.size = B := ⟨_, rfl⟩
  go_wp2_with fail
  rw [hB10] at z0 z1 z2 z3 z4
  (try rw [hB10])
  generalize w3.alloc (.cells #[.int .i64 1, .int .i64 (c : Nat), .int .i64 0, .int .i64 0, .int .u64 (b : Nat)] 29) = W4 at *
  refine (hMy.out _).mono ?_
  rintro e w9 ⟨rfl, rfl⟩
  obtain ⟨v13, w5, hr13, ho13, hb5⟩ := newW hk4 (by rw [hn.out]; omega)
  obtain ⟨g13, c13, rfl, hg13, hl13⟩ := ho13.frm hn.out (by omega)
  have hB5 := hB4.trans (hb5.mono hB4.size)
  have hs45 := hb5.size
  have c5 := cellK5 c4 hb5
  clear hA3 hB3 hk2 c0
  go_wp2_with (at_builtin; refine wpList_append_run rfl _ _ 22 rfl _ _ _ rfl rfl hr13 ?_; clear hr13)
  refine wp_region_tail (S := (fun w' => w'.cell? ⟨gt, ot + i, none⟩ = some (.int .u64 (x : Nat)) ∧ Below w5.heap.size w5 w')) (n := 10) (by kernel_rfl) ?_ (fun hHeld hInv => ?_) (by decide)
  · (try dsimp only)
    (first | assumption | (exact ⟨c5, (Below.refl _ _).drew⟩) | ((try go_split_ands); exact ⟨cellK5 (by assumption) hb, Below.trans (by assumption) (hb.mono (Below.size (by assumption)))⟩))
  refine takeS 0 (v := ?_) (tailAt (by kernel_rfl)) hInv (by decide) rfl (by kernel_rfl) (by kernel_rfl) (by kernel_rfl) (fun _ _ _ h => h) (by rfl) (by assumption) ?_ (fun hInv2 => ?_)
  rotate_left
  · (intro w hSw; (try dsimp only at hSw); (try go_split_ands); go_simp <;> with_reducible rfl)
  clear hInv
  have hInv := hInv2
  clear hInv2
  try simp only [Act.put, List.setIfInBounds_toArray, List.set_cons_zero, List.set_cons_succ] at hInv ⊢
  refine takeS 1 (v := ?_) (tailAt (by kernel_rfl)) hInv (by decide) rfl (by kernel_rfl) (by kernel_rfl) (by kernel_rfl) (fun _ _ _ h => h) (by rfl) (by assumption) ?_ (fun hInv2 => ?_)
  rotate_left
  · (intro w hSw; (try dsimp only at hSw); (try go_split_ands); go_simp <;> with_reducible rfl)
  clear hInv
  have hInv := hInv2
  clear hInv2
  try simp only [Act.put, List.setIfInBounds_toArray, List.set_cons_zero, List.set_cons_succ] at hInv ⊢
  refine takeS 2 (v := ?_) (tailAt (by kernel_rfl)) hInv (by decide) rfl (by kernel_rfl) (by kernel_rfl) (by kernel_rfl) (fun _ _ _ h => h) (by rfl) (by assumption) ?_ (fun hInv2 => ?_)
  rotate_left
  · (intro w hSw; (try dsimp only at hSw); (try go_split_ands); go_simp <;> with_reducible rfl)
  clear hInv
  have hInv := hInv2
  clear hInv2
  try simp only [Act.put, List.setIfInBounds_toArray, List.set_cons_zero, List.set_cons_succ] at hInv ⊢
  refine takeS 3 (v := ?_) (tailAt (by kernel_rfl)) hInv (by decide) rfl (by kernel_rfl) (by kernel_rfl) (by kernel_rfl) (fun _ _ _ h => h) (by rfl) (by assumption) ?_ (fun hInv2 => ?_)
  rotate_left
  · (intro w hSw; (try dsimp only at hSw); (try go_split_ands); go_simp <;> with_reducible rfl)
  clear hInv
  have hInv := hInv2
  clear hInv2
  try simp only [Act.put, List.setIfInBounds_toArray, List.set_cons_zero, List.set_cons_succ] at hInv ⊢
  refine takeS 4 (v := ?_) (tailAt (by kernel_rfl)) hInv (by decide) rfl (by kernel_rfl) (by kernel_rfl) (by kernel_rfl) (fun _ _ _ h => h) (by rfl) (by assumption) ?_ (fun hInv2 => ?_)
  rotate_left
  · (intro w hSw; (try dsimp only at hSw); (try go_split_ands); go_simp <;> with_reducible rfl)
  clear hInv
  have hInv := hInv2
  clear hInv2
  try simp only [Act.put, List.setIfInBounds_toArray, List.set_cons_zero, List.set_cons_succ] at hInv ⊢
  refine takeS 5 (v := ?_) (tailAt (by kernel_rfl)) hInv (by decide) rfl (by kernel_rfl) (by kernel_rfl) (by kernel_rfl) (fun _ _ _ h => h) (by rfl) (by assumption) ?_ (fun hInv2 => ?_)
  rotate_left
  · (intro w hSw; (try dsimp only at hSw); (try go_split_ands); go_simp <;> with_reducible rfl)
  clear hInv
  have hInv := hInv2
  clear hInv2
  try simp only [Act.put, List.setIfInBounds_toArray, List.set_cons_zero, List.set_cons_succ] at hInv ⊢
  refine takeS 6 (v := ?_) (tailAt (by kernel_rfl)) hInv (by decide) rfl (by kernel_rfl) (by kernel_rfl) (by kernel_rfl) (fun _ _ _ h => h) (by rfl) (by assumption) ?_ (fun hInv2 => ?_)
  rotate_left
  · (intro w hSw; (try dsimp only at hSw); (try go_split_ands); go_simp <;> with_reducible rfl)
  clear hInv
  have hInv := hInv2
  clear hInv2
  try simp only [Act.put, List.setIfInBounds_toArray, List.set_cons_zero, List.set_cons_succ] at hInv ⊢
  refine oneS 7 hInv (by decide) rfl (by kernel_rfl) (fun K hK => ?_)
  go_simp
  (refine (hBt.out _ (hwh.out.keep (hB5.trans ((id hHeld).2.mono hB5.size)))).mono ?_; rintro e w9 ⟨rfl, hb⟩)
  refine hK.out _ _ ?_ (fun hHeld2 hInv2 => ?_)
  · (try dsimp only)
    (first | assumption | (exact ⟨c5, (Below.refl _ _).drew⟩) | ((try go_split_ands); exact ⟨cellK5 (by assumption) hb, Below.trans (by assumption) (hb.mono (Below.size (by assumption)))⟩))
  clear hK K hHeld hInv
  have hHeld := hHeld2
  have hInv := hInv2
  clear hHeld2 hInv2
  try simp only [Act.put, List.setIfInBounds_toArray, List.set_cons_zero, List.set_cons_succ] at hInv ⊢
  refine takeS 8 (v := ?_) (tailAt (by kernel_rfl)) hInv (by decide) rfl (by kernel_rfl) (by kernel_rfl) (by kernel_rfl) (fun _ _ _ h => h) (by rfl) (by assumption) ?_ (fun hInv2 => ?_)
  rotate_left
  · (intro w hSw; (try dsimp only at hSw); (try go_split_ands); go_simp <;> with_reducible rfl)
  clear hInv
  have hInv := hInv2
  clear hInv2
  try simp only [Act.put, List.setIfInBounds_toArray, List.set_cons_zero, List.set_cons_succ] at hInv ⊢
  refine takeS 9 (v := ?_) (tailAt (by kernel_rfl)) hInv (by decide) rfl (by kernel_rfl) (by kernel_rfl) (by kernel_rfl) (fun _ _ _ h => h) (by rfl) (by assumption) ?_ (fun hInv2 => ?_)
  rotate_left
  · (intro w hSw; (try dsimp only at hSw); (try go_split_ands); go_simp <;> with_reducible rfl)
  clear hInv
  have hInv := hInv2
  clear hInv2
  try simp only [Act.put, List.setIfInBounds_toArray, List.set_cons_zero, List.set_cons_succ] at hInv ⊢
  refine lastS 10 rfl (by decide) (by kernel_rfl) (fun K hK => ?_)
  obtain ⟨_, hbL⟩ := id hHeld
  have hoL := ho13.keep hbL
  obtain ⟨hcc, hzc⟩ := OwnU.cell hoL hn.out hin
  have hset := OwnU.set (y := x1) hoL hn.out hin
  go_simp
  refine hK.out _ _ ?_
  clear hK K
  try simp only [Act.put, List.setIfInBounds_toArray, List.set_cons_zero, List.set_cons_succ]
  refine wpAnyS_done (by kernel_rfl) ?_ _
  have hb46 := (hb5.trans (hbL.mono hs45)).setCell (p := ⟨g13, i, none⟩) (show W4.heap.size ≤ g13 from hg13) (.int .u64 (x1 : Nat))
  have hl56 := hbL.size
  clear hHeld hInv hcc hzc hoL hbL ho13 c5 hB5 hb5
  generalize w9.setCell ⟨g13, i, none⟩ (.int .u64 (x1 : Nat)) = W6 at *
  have hk6 := hk4.keep hb46
  have c6 := cellK5 c4 hb46
  have x6 := cellK5 z1 hb46
  have hB6 := hB4.trans (hb46.mono hB4.size)
  have hs46 := hb46.size
  have ho6 := hset
  obtain ⟨v14, w7, hr14, ho14, hb7⟩ := newW hk6 (by rw [hn.out]; omega)
  obtain ⟨g14, c14, rfl, hg14, hl14⟩ := ho14.frm hn.out (by omega)
  have hB7 := hB6.trans (hb7.mono hB6.size)
  have hs67 := hb7.size
  have c7 := cellK5 c6 hb7
  have hl13b : Hid (∀ b, Value.ownBlock (.slice (some ⟨g13, 0, none⟩) n c13) = some b → b < W6.heap.size) := Lib.hid (fun b q => (ho6.lt b q).2)
  clear hset hb46 hk4 c4 z0 z1 z2 z3 z4 hl56
  go_wp2_with (at_builtin; refine wpList_append_run rfl _ _ 22 rfl _ _ _ rfl rfl hr14 ?_; clear hr14)
  refine wp_region_tail (S := (fun w' => w'.cell? ⟨gt, ot + i, none⟩ = some (.int .u64 (x : Nat)) ∧ Below w7.heap.size w7 w')) (n := 10) (by kernel_rfl) ?_ (fun hHeld hInv => ?_) (by decide)
  · (try dsimp only)
    (first | assumption | (exact ⟨c7, (Below.refl _ _).drew⟩) | ((try go_split_ands); exact ⟨cellK5 (by assumption) hb, Below.trans (by assumption) (hb.mono (Below.size (by assumption)))⟩))
  refine takeS 0 (v := ?_) (tailAt (by kernel_rfl)) hInv (by decide) rfl (by kernel_rfl) (by kernel_rfl) (by kernel_rfl) (fun _ _ _ h => h) (by rfl) (by assumption) ?_ (fun hInv2 => ?_)
  rotate_left
  · (intro w hSw; (try dsimp only at hSw); (try go_split_ands); go_simp <;> with_reducible rfl)
  clear hInv
  have hInv := hInv2
  clear hInv2
  try simp only [Act.put, List.setIfInBounds_toArray, List.set_cons_zero, List.set_cons_succ] at hInv ⊢
  refine takeS 1 (v := ?_) (tailAt (by kernel_rfl)) hInv (by decide) rfl (by kernel_rfl) (by kernel_rfl) (by kernel_rfl) (fun _ _ _ h => h) (by rfl) (by assumption) ?_ (fun hInv2 => ?_)
  rotate_left
  · (intro w hSw; (try dsimp only at hSw); (try go_split_ands); go_simp <;> with_reducible rfl)
  clear hInv
  have hInv := hInv2
  clear hInv2
  try simp only [Act.put, List.setIfInBounds_toArray, List.set_cons_zero, List.set_cons_succ] at hInv ⊢
  refine takeS 2 (v := ?_) (tailAt (by kernel_rfl)) hInv (by decide) rfl (by kernel_rfl) (by kernel_rfl) (by kernel_rfl) (fun _ _ _ h => h) (by rfl) (by assumption) ?_ (fun hInv2 => ?_)
  rotate_left
  · (intro w hSw; (try dsimp only at hSw); (try go_split_ands); go_simp <;> with_reducible rfl)
  clear hInv
  have hInv := hInv2
  clear hInv2
  try simp only [Act.put, List.setIfInBounds_toArray, List.set_cons_zero, List.set_cons_succ] at hInv ⊢
  refine takeS 3 (v := ?_) (tailAt (by kernel_rfl)) hInv (by decide) rfl (by kernel_rfl) (by kernel_rfl) (by kernel_rfl) (fun _ _ _ h => h) (by rfl) (by assumption) ?_ (fun hInv2 => ?_)
  rotate_left
  · (intro w hSw; (try dsimp only at hSw); (try go_split_ands); go_simp <;> with_reducible rfl)
  clear hInv
  have hInv := hInv2
  clear hInv2
  try simp only [Act.put, List.setIfInBounds_toArray, List.set_cons_zero, List.set_cons_succ] at hInv ⊢
  refine takeS 4 (v := ?_) (tailAt (by kernel_rfl)) hInv (by decide) rfl (by kernel_rfl) (by kernel_rfl) (by kernel_rfl) (fun _ _ _ h => h) (by rfl) (by assumption) ?_ (fun hInv2 => ?_)
  rotate_left
  · (intro w hSw; (try dsimp only at hSw); (try go_split_ands); go_simp <;> with_reducible rfl)
  clear hInv
  have hInv := hInv2
  clear hInv2
  try simp only [Act.put, List.setIfInBounds_toArray, List.set_cons_zero, List.set_cons_succ] at hInv ⊢
  refine takeS 5 (v := ?_) (tailAt (by kernel_rfl)) hInv (by decide) rfl (by kernel_rfl) (by kernel_rfl) (by kernel_rfl) (fun _ _ _ h => h) (by rfl) (by assumption) ?_ (fun hInv2 => ?_)
  rotate_left
  · (intro w hSw; (try dsimp only at hSw); (try go_split_ands); go_simp <;> with_reducible rfl)
  clear hInv
  have hInv := hInv2
  clear hInv2
  try simp only [Act.put, List.setIfInBounds_toArray, List.set_cons_zero, List.set_cons_succ] at hInv ⊢
  refine takeS 6 (v := ?_) (tailAt (by kernel_rfl)) hInv (by decide) rfl (by kernel_rfl) (by kernel_rfl) (by kernel_rfl) (fun _ _ _ h => h) (by rfl) (by assumption) ?_ (fun hInv2 => ?_)
  rotate_left
  · (intro w hSw; (try dsimp only at hSw); (try go_split_ands); go_simp <;> with_reducible rfl)
  clear hInv
  have hInv := hInv2
  clear hInv2
  try simp only [Act.put, List.setIfInBounds_toArray, List.set_cons_zero, List.set_cons_succ] at hInv ⊢
  refine oneS 7 hInv (by decide) rfl (by kernel_rfl) (fun K hK => ?_)
  go_simp
  (refine (hBt.out _ (hwh.out.keep (hB7.trans ((id hHeld).2.mono hB7.size)))).mono ?_; rintro e w9 ⟨rfl, hb⟩)
  refine hK.out _ _ ?_ (fun hHeld2 hInv2 => ?_)
  · (try dsimp only)
    (first | assumption | (exact ⟨c7, (Below.refl _ _).drew⟩) | ((try go_split_ands); exact ⟨cellK5 (by assumption) hb, Below.trans (by assumption) (hb.mono (Below.size (by assumption)))⟩))
  clear hK K hHeld hInv
  have hHeld := hHeld2
  have hInv := hInv2
  clear hHeld2 hInv2
  try simp only [Act.put, List.setIfInBounds_toArray, List.set_cons_zero, List.set_cons_succ] at hInv ⊢
  refine takeS 8 (v := ?_) (tailAt (by kernel_rfl)) hInv (by decide) rfl (by kernel_rfl) (by kernel_rfl) (by kernel_rfl) (fun _ _ _ h => h) (by rfl) (by assumption) ?_ (fun hInv2 => ?_)
  rotate_left
  · (intro w hSw; (try dsimp only at hSw); (try go_split_ands); go_simp <;> with_reducible rfl)
  clear hInv
  have hInv := hInv2
  clear hInv2
  try simp only [Act.put, List.setIfInBounds_toArray, List.set_cons_zero, List.set_cons_succ] at hInv ⊢
  refine takeS 9 (v := ?_) (tailAt (by kernel_rfl)) hInv (by decide) rfl (by kernel_rfl) (by kernel_rfl) (by kernel_rfl) (fun _ _ _ h => h) (by rfl) (by assumption) ?_ (fun hInv2 => ?_)
  rotate_left
  · (intro w hSw; (try dsimp only at hSw); (try go_split_ands); go_simp <;> with_reducible rfl)
  clear hInv
  have hInv := hInv2
  clear hInv2
  try simp only [Act.put, List.setIfInBounds_toArray, List.set_cons_zero, List.set_cons_succ] at hInv ⊢
  refine lastS 10 rfl (by decide) (by kernel_rfl) (fun K hK => ?_)
  obtain ⟨_, hbL⟩ := id hHeld
  have hoL := ho14.keep hbL
  obtain ⟨hcc, hzc⟩ := OwnU.cell hoL hn.out hin
  have hset := OwnU.set (y := x0) hoL hn.out hin
  go_simp
  refine hK.out _ _ ?_
  clear hK K
  try simp only [Act.put, List.setIfInBounds_toArray, List.set_cons_zero, List.set_cons_succ]
  refine wpAnyS_done (by kernel_rfl) ?_ _
  have hb68 := (hb7.trans (hbL.mono hs67)).setCell (p := ⟨g14, i, none⟩) (show W6.heap.size ≤ g14 from hg14) (.int .u64 (x0 : Nat))
  clear hHeld hInv hcc hzc hoL hbL ho14 c7 hB7 hb7
  generalize w9.setCell ⟨g14, i, none⟩ (.int .u64 (x0 : Nat)) = W8 at *
  have ho8 := ho6.keepG hb68 hl13b.out
  have x8 := cellK5 x6 hb68
  have hB8 := hB6.trans (hb68.mono hB6.size)
  have hk13 := ho8.kl
  have hk14 := hset.kl
  have hL1 := Lib.hid (show (t.set i x1).length ≤ 10000 from by rw [List.length_set, hn.out]; omega)
  have hL0 := Lib.hid (show (t.set i x0).length ≤ 10000 from by rw [List.length_set, hn.out]; omega)
  have hW1 : Hid (WL (t.set i x1)) := Lib.hid (fun y hy => by rcases List.mem_or_eq_of_mem_set hy with h | rfl; exact htW.out y h; omega)
  have hW0 : Hid (WL (t.set i x0)) := Lib.hid (fun y hy => by rcases List.mem_or_eq_of_mem_set hy with h | rfl; exact htW.out y h; omega)
  have hBa := blocksT_any _ _ W8 (hwh.out.keep hB8) hk13 hW1.out hL1.out
  obtain ⟨LA, hLAe⟩ : ∃ L, blksT (t.set i x1) = L := ⟨_, rfl⟩
  obtain ⟨LB, hLBe⟩ : ∃ L, blksT (t.set i x0) = L := ⟨_, rfl⟩
  have hLl : Hid (LA.length ≤ 8 * n) := Lib.hid (by rw [← hLAe]; have := blksT_len (t.set i x1); rw [List.length_set, hn.out] at this; exact this)
  have hO2 := hOne.out
  rw [hLAe, hLBe] at hO2
  replace hOne := Lib.hid hO2
  rw [hLAe] at hBa
  replace hLBe := Lib.hid hLBe
  have hLAn := hOne.out.lenA
  replace hLAn := Lib.hid hLAn
  clear hO2 hLAe
  clear hB6 hb68 ho8 ho6 hset x6 hk6 c6
  go_wp2_with fail
  refine hBa.mono ?_
  rintro e w10 ⟨v15, rfl, ho15, hb10⟩
  have hB10' := hB8.trans (hb10.mono hB8.size)
  have hBb := blocksT_any _ _ w10 (hwh.out.keep hB10') (hk14.keep hb10) hW0.out hL0.out
  rw [hLBe.out] at hBb
  have x10 := cellK5 x8 hb10
  have hka := ho15.el eB_len
  obtain ⟨la, hla⟩ : ∃ k, p + 1 + z = k := ⟨_, rfl⟩
  obtain ⟨lb, hlb⟩ : ∃ k, p + z = k := ⟨_, rfl⟩
  have hLA : LA.length = la := by rw [hOne.out.lenA, hla]
  have hLB : LB.length = lb := by rw [hOne.out.lenB, hlb]
  obtain ⟨Aa, ca, rfl⟩ := ho15.sl hLA
  clear hBa hk13 hk14 hb10 hB8 x8 ho15 hLBe
  go_wp2_with fail
  refine hBb.mono ?_
  rintro e w11 ⟨v16, rfl, ho16, hb11⟩
  have hB11 := hB10'.trans (hb11.mono hB10'.size)
  have x11 := cellK5 x10 hb11
  have hka1 := hka.keep hb11
  have hkb1 : BKL w11 v16 LB := ho16.el eB_len
  obtain ⟨Ab, cb, rfl⟩ := ho16.sl hLB
  obtain ⟨Aa2, ca2, he, hCA⟩ := BKL.form hka1 hLA
  simp only [Value.slice.injEq, true_and] at he
  obtain ⟨rfl, rfl⟩ := he
  obtain ⟨Ab2, cb2, he, hCB⟩ := BKL.form hkb1 hLB
  simp only [Value.slice.injEq, true_and] at he
  obtain ⟨rfl, rfl⟩ := he
  replace hCA := Lib.hid hCA
  replace hCB := Lib.hid hCB
  have hl9 : la ≤ 1000 := by have := hLl.out; have := hLAn.out; omega
  have hls : lb + 1 = la := by omega
  have f9 : IntKind.i64.wrap ((lb : Int) + 1) = (la : Int) := by rw [IntKind.wrap_i64]; omega
  have f8 : (lb : Int) + 1 = (la : Int) := by omega
  have hpl : p < la := by omega
  have hLow := Lib.hid hOne.out.low
  have hAt := Lib.hid hOne.out.at_
  have hHi := Lib.hid (fun j (h1 : p < j) (h2 : j < la) => hOne.out.high j h1 (by omega))
  replace hLA := Lib.hid hLA
  replace hLB := Lib.hid hLB
  replace hla := Lib.hid hla
  replace hlb' := Lib.hid hlb
  clear hBb hka hka1 hkb1 ho16 hb11 hB10' x10 hlb
  go_wp2_with fail
  go_loopw [18, 17] (fun iv sv wr => ∃ (j sk : Nat), j ≤ la ∧ iv = .int .i64 j ∧ sv = .int .i64 sk ∧ Hid (sk = if j ≤ p then 0 else 1) ∧ Below w11.heap.size w11 wr) (fun iv _ _ => la + 1 - (intOf iv).toNat)
  case atStart => exact ⟨0, 0, Nat.zero_le _, rfl, rfl, Lib.hid (by rw [if_pos (Nat.zero_le _)]), Below.refl _ _⟩
  case round =>
    obtain ⟨j, sk, hj, rfl, rfl, hsk, hB⟩ := hrel
    have hBw := hB11.trans (hB.mono hB11.size)
    have xc := cellK5 x11 hB
    by_cases hlt : j < la
    · have hlt' : (j : Int) < (la : Int) := by omega
      obtain ⟨ga, oa, hAe, hcap, _, hga, r0, r1, r2⟩ := hCA.out wr j hB hlt
      subst hAe
      by_cases hjp : j = p
      · have hy := hAt.out
        rw [← hjp] at hy
        rw [hy] at r0 r1 r2
        simp only [] at r0 r1 r2
        have hs0 : sk = 0 := by rw [hsk.out, if_pos (by omega)]
        subst hs0
        have hsk2 : Hid (1 = if j + 1 ≤ p then 0 else 1) := Lib.hid (by rw [if_neg (by omega)])
        obtain ⟨a1, ha1⟩ : ∃ a, a = i := ⟨_, rfl⟩
        obtain ⟨a2, ha2⟩ : ∃ a, a = k := ⟨_, rfl⟩
        obtain ⟨a3, ha3⟩ : ∃ a, a = bl := ⟨_, rfl⟩
        rw [← ha1] at r0
        rw [← ha2] at r1
        rw [← ha3] at r2
        subst ha1 ha2 ha3
        clear hy hjp hsk
        go_wp2_with fail
        refine wp_region_held_drew (S := (fun w' => (w'.cell? ⟨ga, oa + j * 3, none⟩ = some (.int .i64 (a1 : Nat)) ∧ w'.cell? ⟨ga, oa + j * 3 + 1, none⟩ = some (.int .i64 (a2 : Nat)) ∧ w'.cell? ⟨ga, oa + j * 3 + 2, none⟩ = some (.int .i64 (a3 : Nat)) ∧ w'.cell? ⟨B10, 1, none⟩ = some (.int .i64 (c : Nat))) ∧ Below wr.heap.size wr w')) (by kernel_rfl) ?_ (fun hHeld => ?_)
        · (try dsimp only)
          (first | assumption | (exact ⟨⟨r0, r1, r2, xc⟩, (Below.refl _ _).drew⟩))
        refine takeL 0 (v := ?_) rfl (by kernel_rfl) (by kernel_rfl) (by kernel_rfl) (fun _ _ _ h => h) (by rfl) (by assumption) ?_ ?_
        rotate_left
        · (intro w hSw; (try dsimp only at hSw); go_simp <;> with_reducible rfl)
        try simp only [Act.put, List.setIfInBounds_toArray, List.set_cons_zero, List.set_cons_succ]
        refine takeL 1 (v := ?_) rfl (by kernel_rfl) (by kernel_rfl) (by kernel_rfl) (fun _ _ _ h => h) (by rfl) (by assumption) ?_ ?_
        rotate_left
        · (intro w hSw; (try dsimp only at hSw); go_simp <;> with_reducible rfl)
        try simp only [Act.put, List.setIfInBounds_toArray, List.set_cons_zero, List.set_cons_succ]
        refine takeL 2 (v := ?_) rfl (by kernel_rfl) (by kernel_rfl) (by kernel_rfl) (fun _ _ _ h => h) (by rfl) (by assumption) ?_ ?_
        rotate_left
        · (intro w hSw; (try dsimp only at hSw); go_simp <;> with_reducible rfl)
        try simp only [Act.put, List.setIfInBounds_toArray, List.set_cons_zero, List.set_cons_succ]
        refine takeL 3 (v := ?_) rfl (by kernel_rfl) (by kernel_rfl) (by kernel_rfl) (fun _ _ _ h => h) (by rfl) (by assumption) ?_ ?_
        rotate_left
        · (intro w hSw; (try dsimp only at hSw); go_simp <;> with_reducible rfl)
        try simp only [Act.put, List.setIfInBounds_toArray, List.set_cons_zero, List.set_cons_succ]
        refine takeL 4 (v := ?_) rfl (by kernel_rfl) (by kernel_rfl) (by kernel_rfl) (fun _ _ _ h => h) (by rfl) (by assumption) ?_ ?_
        rotate_left
        · (intro w hSw; (try dsimp only at hSw); go_simp <;> with_reducible rfl)
        try simp only [Act.put, List.setIfInBounds_toArray, List.set_cons_zero, List.set_cons_succ]
        refine takeL 5 (v := ?_) rfl (by kernel_rfl) (by kernel_rfl) (by kernel_rfl) (fun _ _ _ h => h) (by rfl) (by assumption) ?_ ?_
        rotate_left
        · (intro w hSw; (try dsimp only at hSw); go_simp <;> with_reducible rfl)
        try simp only [Act.put, List.setIfInBounds_toArray, List.set_cons_zero, List.set_cons_succ]
        refine takeL 6 (v := ?_) rfl (by kernel_rfl) (by kernel_rfl) (by kernel_rfl) (fun _ _ _ h => h) (by rfl) (by assumption) ?_ ?_
        rotate_left
        · (intro w hSw; (try dsimp only at hSw); go_simp <;> with_reducible rfl)
        try simp only [Act.put, List.setIfInBounds_toArray, List.set_cons_zero, List.set_cons_succ]
        refine takeL 7 (v := ?_) rfl (by kernel_rfl) (by kernel_rfl) (by kernel_rfl) (fun _ _ _ h => h) (by rfl) (by assumption) ?_ ?_
        rotate_left
        · (intro w hSw; (try dsimp only at hSw); go_simp <;> with_reducible rfl)
        try simp only [Act.put, List.setIfInBounds_toArray, List.set_cons_zero, List.set_cons_succ]
        refine oneL 8 rfl (by kernel_rfl) (fun K hK => ?_)
        go_simp
        (refine (Calls.mono (hBk.out _) ?_); rintro e w9 ⟨rfl, rfl⟩)
        refine hK.out _ _ ?_ (fun hHeld2 => ?_)
        · (try dsimp only)
          (first | assumption | (exact ⟨⟨r0, r1, r2, xc⟩, (Below.refl _ _).drew⟩))
        clear hK K hHeld
        have hHeld := hHeld2
        clear hHeld2
        try simp only [Act.put, List.setIfInBounds_toArray, List.set_cons_zero, List.set_cons_succ]
        refine takeL 9 (v := ?_) rfl (by kernel_rfl) (by kernel_rfl) (by kernel_rfl) (fun _ _ _ h => h) (by rfl) (by assumption) ?_ ?_
        rotate_left
        · (intro w hSw; (try dsimp only at hSw); go_simp <;> with_reducible rfl)
        try simp only [Act.put, List.setIfInBounds_toArray, List.set_cons_zero, List.set_cons_succ]
        refine takeL 10 (v := ?_) rfl (by kernel_rfl) (by kernel_rfl) (by kernel_rfl) (fun _ _ _ h => h) (by rfl) (by assumption) ?_ ?_
        rotate_left
        · (intro w hSw; (try dsimp only at hSw); go_simp <;> with_reducible rfl)
        try simp only [Act.put, List.setIfInBounds_toArray, List.set_cons_zero, List.set_cons_succ]
        refine wpAnyH_done (by kernel_rfl) ?_ _
        clear hHeld
        go_wp2_with fail
        go_roundw
        case rel => exact ⟨j + 1, 1, by omega, by go_num, rfl, hsk2, hB.drew⟩
        case measure => first | (simp [intOf]; done) | (simp [intOf]; omega)
      · have hq : ∃ q, j - sk = q ∧ sk ≤ j ∧ q < lb ∧ LA.getD j default = LB.getD q default ∧ LA.getD j default ≠ (i, k, bl) ∧ (sk = if j + 1 ≤ p then 0 else 1) := by
          by_cases h : j < p
          · have := hLow.out j h
            have hs : sk = 0 := by rw [hsk.out, if_pos (by omega)]
            exact ⟨j, by omega, by omega, by have := hlb'.out; omega, this.1, this.2, by rw [if_pos (by omega)]; exact hs⟩
          · have := hHi.out j (by omega) hlt
            have hs : sk = 1 := by rw [hsk.out, if_neg (by omega)]
            exact ⟨j - 1, by omega, by omega, by omega, this.1, this.2, by rw [if_neg (by omega)]; exact hs⟩
        obtain ⟨q, hq1, hq2, hq3, hq4, hne, hsk2⟩ := hq
        obtain ⟨gb, ob, hBe, hcap2, _, hgb, s0, s1, s2⟩ := hCB.out wr q hB hq3
        subst hBe
        rw [← hq4] at s0 s1 s2
        generalize LA.getD j default = a at *
        obtain ⟨a1, a2, a3⟩ := a
        simp only [] at r0 r1 r2 s0 s1 s2 hne
        replace hsk2 := Lib.hid hsk2
        have g1 : IntKind.i64.wrap ((j : Int) - (sk : Int)) = (q : Int) := by rw [IntKind.wrap_i64]; omega
        have g2 : (j : Int) - (sk : Int) = (q : Int) := by omega
        have g3 : ¬ (lb : Int) ≤ (q : Int) := by omega
        have g3' : decide ((lb : Int) ≤ (q : Int)) = false := decide_eq_false g3
        have g4 : (q : Int) < (lb : Int) := by omega
        have g6 : decide (lb ≤ q) = false := decide_eq_false (by omega)
        have g7 : ¬ lb ≤ q := by omega
        have g8 : IntKind.i64.wrap ((j : Int) - (sk : Int)) = (q : Int) := g1
        have g5 : IntKind.i64.wrap (q : Int) = (q : Int) := by rw [IntKind.wrap_i64]; omega
        clear hq1 hq2 hq4 hjp hsk
        by_cases q1 : a1 = i
        · subst q1
          by_cases q2 : a2 = k
          · subst q2
            have q3 : ¬ a3 = bl := fun q => hne (by rw [q])
            have f1 : ((a3 : Int) == (bl : Int)) = false := by rw [beq_eq_false_iff_ne]; omega
            have f2 : (a3 == bl) = false := by rw [beq_eq_false_iff_ne]; exact q3
            clear q3
            go_wp2_with fail
            refine wp_region_held_drew (S := (fun w' => (w'.cell? ⟨ga, oa + j * 3, none⟩ = some (.int .i64 (a1 : Nat)) ∧ w'.cell? ⟨ga, oa + j * 3 + 1, none⟩ = some (.int .i64 (a2 : Nat)) ∧ w'.cell? ⟨ga, oa + j * 3 + 2, none⟩ = some (.int .i64 (a3 : Nat)) ∧ w'.cell? ⟨B10, 1, none⟩ = some (.int .i64 (c : Nat))) ∧ Below wr.heap.size wr w')) (by kernel_rfl) ?_ (fun hHeld => ?_)
            · (try dsimp only)
              (first | assumption | (exact ⟨⟨r0, r1, r2, xc⟩, (Below.refl _ _).drew⟩))
            refine takeL 0 (v := ?_) rfl (by kernel_rfl) (by kernel_rfl) (by kernel_rfl) (fun _ _ _ h => h) (by rfl) (by assumption) ?_ ?_
            rotate_left
            · (intro w hSw; (try dsimp only at hSw); go_simp <;> with_reducible rfl)
            try simp only [Act.put, List.setIfInBounds_toArray, List.set_cons_zero, List.set_cons_succ]
            refine takeL 1 (v := ?_) rfl (by kernel_rfl) (by kernel_rfl) (by kernel_rfl) (fun _ _ _ h => h) (by rfl) (by assumption) ?_ ?_
            rotate_left
            · (intro w hSw; (try dsimp only at hSw); go_simp <;> with_reducible rfl)
            try simp only [Act.put, List.setIfInBounds_toArray, List.set_cons_zero, List.set_cons_succ]
            refine takeL 2 (v := ?_) rfl (by kernel_rfl) (by kernel_rfl) (by kernel_rfl) (fun _ _ _ h => h) (by rfl) (by assumption) ?_ ?_
            rotate_left
            · (intro w hSw; (try dsimp only at hSw); go_simp <;> with_reducible rfl)
            try simp only [Act.put, List.setIfInBounds_toArray, List.set_cons_zero, List.set_cons_succ]
            refine takeL 3 (v := ?_) rfl (by kernel_rfl) (by kernel_rfl) (by kernel_rfl) (fun _ _ _ h => h) (by rfl) (by assumption) ?_ ?_
            rotate_left
            · (intro w hSw; (try dsimp only at hSw); go_simp <;> with_reducible rfl)
            try simp only [Act.put, List.setIfInBounds_toArray, List.set_cons_zero, List.set_cons_succ]
            refine takeL 4 (v := ?_) rfl (by kernel_rfl) (by kernel_rfl) (by kernel_rfl) (fun _ _ _ h => h) (by rfl) (by assumption) ?_ ?_
            rotate_left
            · (intro w hSw; (try dsimp only at hSw); go_simp <;> with_reducible rfl)
            try simp only [Act.put, List.setIfInBounds_toArray, List.set_cons_zero, List.set_cons_succ]
            refine takeL 5 (v := ?_) rfl (by kernel_rfl) (by kernel_rfl) (by kernel_rfl) (fun _ _ _ h => h) (by rfl) (by assumption) ?_ ?_
            rotate_left
            · (intro w hSw; (try dsimp only at hSw); go_simp <;> with_reducible rfl)
            try simp only [Act.put, List.setIfInBounds_toArray, List.set_cons_zero, List.set_cons_succ]
            refine takeL 6 (v := ?_) rfl (by kernel_rfl) (by kernel_rfl) (by kernel_rfl) (fun _ _ _ h => h) (by rfl) (by assumption) ?_ ?_
            rotate_left
            · (intro w hSw; (try dsimp only at hSw); go_simp <;> with_reducible rfl)
            try simp only [Act.put, List.setIfInBounds_toArray, List.set_cons_zero, List.set_cons_succ]
            refine takeL 7 (v := ?_) rfl (by kernel_rfl) (by kernel_rfl) (by kernel_rfl) (fun _ _ _ h => h) (by rfl) (by assumption) ?_ ?_
            rotate_left
            · (intro w hSw; (try dsimp only at hSw); go_simp <;> with_reducible rfl)
            try simp only [Act.put, List.setIfInBounds_toArray, List.set_cons_zero, List.set_cons_succ]
            refine oneL 8 rfl (by kernel_rfl) (fun K hK => ?_)
            go_simp
            (refine (Calls.mono (hBk.out _) ?_); rintro e w9 ⟨rfl, rfl⟩)
            refine hK.out _ _ ?_ (fun hHeld2 => ?_)
            · (try dsimp only)
              (first | assumption | (exact ⟨⟨r0, r1, r2, xc⟩, (Below.refl _ _).drew⟩))
            clear hK K hHeld
            have hHeld := hHeld2
            clear hHeld2
            try simp only [Act.put, List.setIfInBounds_toArray, List.set_cons_zero, List.set_cons_succ]
            refine takeL 9 (v := ?_) rfl (by kernel_rfl) (by kernel_rfl) (by kernel_rfl) (fun _ _ _ h => h) (by rfl) (by assumption) ?_ ?_
            rotate_left
            · (intro w hSw; (try dsimp only at hSw); go_simp <;> with_reducible rfl)
            try simp only [Act.put, List.setIfInBounds_toArray, List.set_cons_zero, List.set_cons_succ]
            refine takeL 10 (v := ?_) rfl (by kernel_rfl) (by kernel_rfl) (by kernel_rfl) (fun _ _ _ h => h) (by rfl) (by assumption) ?_ ?_
            rotate_left
            · (intro w hSw; (try dsimp only at hSw); go_simp <;> with_reducible rfl)
            try simp only [Act.put, List.setIfInBounds_toArray, List.set_cons_zero, List.set_cons_succ]
            refine wpAnyH_done (by kernel_rfl) ?_ _
            clear hHeld hne
            go_wp2_with fail
            refine wp_region_held_drew (S := (fun w' => (w'.cell? ⟨ga, oa + j * 3, none⟩ = some (.int .i64 (a1 : Nat)) ∧ w'.cell? ⟨ga, oa + j * 3 + 1, none⟩ = some (.int .i64 (a2 : Nat)) ∧ w'.cell? ⟨ga, oa + j * 3 + 2, none⟩ = some (.int .i64 (a3 : Nat))) ∧ (w'.cell? ⟨gb, ob + q * 3, none⟩ = some (.int .i64 (a1 : Nat)) ∧ w'.cell? ⟨gb, ob + q * 3 + 1, none⟩ = some (.int .i64 (a2 : Nat)) ∧ w'.cell? ⟨gb, ob + q * 3 + 2, none⟩ = some (.int .i64 (a3 : Nat))))) (by kernel_rfl) ?_ (fun hHeld => ?_)
            · (try dsimp only)
              (first | assumption | (exact ⟨⟨r0, r1, r2⟩, ⟨s0, s1, s2⟩⟩))
            refine takeL 0 (v := ?_) rfl (by kernel_rfl) (by kernel_rfl) (by kernel_rfl) (fun _ _ _ h => h) (by rfl) (by assumption) ?_ ?_
            rotate_left
            · (intro w hSw; (try dsimp only at hSw); go_simp <;> with_reducible rfl)
            try simp only [Act.put, List.setIfInBounds_toArray, List.set_cons_zero, List.set_cons_succ]
            refine takeL 1 (v := ?_) rfl (by kernel_rfl) (by kernel_rfl) (by kernel_rfl) (fun _ _ _ h => h) (by rfl) (by assumption) ?_ ?_
            rotate_left
            · (intro w hSw; (try dsimp only at hSw); go_simp <;> with_reducible rfl)
            try simp only [Act.put, List.setIfInBounds_toArray, List.set_cons_zero, List.set_cons_succ]
            refine takeL 2 (v := ?_) rfl (by kernel_rfl) (by kernel_rfl) (by kernel_rfl) (fun _ _ _ h => h) (by rfl) (by assumption) ?_ ?_
            rotate_left
            · (intro w hSw; (try dsimp only at hSw); go_simp <;> with_reducible rfl)
            try simp only [Act.put, List.setIfInBounds_toArray, List.set_cons_zero, List.set_cons_succ]
            refine takeL 3 (v := ?_) rfl (by kernel_rfl) (by kernel_rfl) (by kernel_rfl) (fun _ _ _ h => h) (by rfl) (by assumption) ?_ ?_
            rotate_left
            · (intro w hSw; (try dsimp only at hSw); go_simp <;> with_reducible rfl)
            try simp only [Act.put, List.setIfInBounds_toArray, List.set_cons_zero, List.set_cons_succ]
            refine takeL 4 (v := ?_) rfl (by kernel_rfl) (by kernel_rfl) (by kernel_rfl) (fun _ _ _ h => h) (by rfl) (by assumption) ?_ ?_
            rotate_left
            · (intro w hSw; (try dsimp only at hSw); go_simp <;> with_reducible rfl)
            try simp only [Act.put, List.setIfInBounds_toArray, List.set_cons_zero, List.set_cons_succ]
            refine takeL 5 (v := ?_) rfl (by kernel_rfl) (by kernel_rfl) (by kernel_rfl) (fun _ _ _ h => h) (by rfl) (by assumption) ?_ ?_
            rotate_left
            · (intro w hSw; (try dsimp only at hSw); go_simp <;> with_reducible rfl)
            try simp only [Act.put, List.setIfInBounds_toArray, List.set_cons_zero, List.set_cons_succ]
            refine takeL 6 (v := ?_) rfl (by kernel_rfl) (by kernel_rfl) (by kernel_rfl) (fun _ _ _ h => h) (by rfl) (by assumption) ?_ ?_
            rotate_left
            · (intro w hSw; (try dsimp only at hSw); go_simp <;> with_reducible rfl)
            try simp only [Act.put, List.setIfInBounds_toArray, List.set_cons_zero, List.set_cons_succ]
            refine takeL 7 (v := ?_) rfl (by kernel_rfl) (by kernel_rfl) (by kernel_rfl) (fun _ _ _ h => h) (by rfl) (by assumption) ?_ ?_
            rotate_left
            · (intro w hSw; (try dsimp only at hSw); go_simp <;> with_reducible rfl)
            try simp only [Act.put, List.setIfInBounds_toArray, List.set_cons_zero, List.set_cons_succ]
            refine takeL 8 (v := ?_) rfl (by kernel_rfl) (by kernel_rfl) (by kernel_rfl) (fun _ _ _ h => h) (by rfl) (by assumption) ?_ ?_
            rotate_left
            · (intro w hSw; (try dsimp only at hSw); go_simp <;> with_reducible rfl)
            try simp only [Act.put, List.setIfInBounds_toArray, List.set_cons_zero, List.set_cons_succ]
            refine takeL 9 (v := ?_) rfl (by kernel_rfl) (by kernel_rfl) (by kernel_rfl) (fun _ _ _ h => h) (by rfl) (by assumption) ?_ ?_
            rotate_left
            · (intro w hSw; (try dsimp only at hSw); go_simp <;> with_reducible rfl)
            try simp only [Act.put, List.setIfInBounds_toArray, List.set_cons_zero, List.set_cons_succ]
            refine takeL 10 (v := ?_) rfl (by kernel_rfl) (by kernel_rfl) (by kernel_rfl) (fun _ _ _ h => h) (by rfl) (by assumption) ?_ ?_
            rotate_left
            · (intro w hSw; (try dsimp only at hSw); go_simp <;> with_reducible rfl)
            try simp only [Act.put, List.setIfInBounds_toArray, List.set_cons_zero, List.set_cons_succ]
            refine takeL 11 (v := ?_) rfl (by kernel_rfl) (by kernel_rfl) (by kernel_rfl) (fun _ _ _ h => h) (by rfl) (by assumption) ?_ ?_
            rotate_left
            · (intro w hSw; (try dsimp only at hSw); go_simp <;> with_reducible rfl)
            try simp only [Act.put, List.setIfInBounds_toArray, List.set_cons_zero, List.set_cons_succ]
            refine takeL 12 (v := ?_) rfl (by kernel_rfl) (by kernel_rfl) (by kernel_rfl) (fun _ _ _ h => h) (by rfl) (by assumption) ?_ ?_
            rotate_left
            · (intro w hSw; (try dsimp only at hSw); go_simp <;> with_reducible rfl)
            try simp only [Act.put, List.setIfInBounds_toArray, List.set_cons_zero, List.set_cons_succ]
            refine takeL 13 (v := ?_) rfl (by kernel_rfl) (by kernel_rfl) (by kernel_rfl) (fun _ _ _ h => h) (by rfl) (by assumption) ?_ ?_
            rotate_left
            · (intro w hSw; (try dsimp only at hSw); go_simp <;> with_reducible rfl)
            try simp only [Act.put, List.setIfInBounds_toArray, List.set_cons_zero, List.set_cons_succ]
            refine takeL 14 (v := ?_) rfl (by kernel_rfl) (by kernel_rfl) (by kernel_rfl) (fun _ _ _ h => h) (by rfl) (by assumption) ?_ ?_
            rotate_left
            · (intro w hSw; (try dsimp only at hSw); go_simp <;> with_reducible rfl)
            try simp only [Act.put, List.setIfInBounds_toArray, List.set_cons_zero, List.set_cons_succ]
            refine takeL 15 (v := ?_) rfl (by kernel_rfl) (by kernel_rfl) (by kernel_rfl) (fun _ _ _ h => h) (by rfl) (by assumption) ?_ ?_
            rotate_left
            · (intro w hSw; (try dsimp only at hSw); go_simp <;> with_reducible rfl)
            try simp only [Act.put, List.setIfInBounds_toArray, List.set_cons_zero, List.set_cons_succ]
            refine takeL 16 (v := ?_) rfl (by kernel_rfl) (by kernel_rfl) (by kernel_rfl) (fun _ _ _ h => h) (by rfl) (by assumption) ?_ ?_
            rotate_left
            · (intro w hSw; (try dsimp only at hSw); go_simp <;> with_reducible rfl)
            try simp only [Act.put, List.setIfInBounds_toArray, List.set_cons_zero, List.set_cons_succ]
            refine takeL 17 (v := ?_) rfl (by kernel_rfl) (by kernel_rfl) (by kernel_rfl) (fun _ _ _ h => h) (by rfl) (by assumption) ?_ ?_
            rotate_left
            · (intro w hSw; (try dsimp only at hSw); go_simp <;> with_reducible rfl)
            try simp only [Act.put, List.setIfInBounds_toArray, List.set_cons_zero, List.set_cons_succ]
            refine takeL 18 (v := ?_) rfl (by kernel_rfl) (by kernel_rfl) (by kernel_rfl) (fun _ _ _ h => h) (by rfl) (by assumption) ?_ ?_
            rotate_left
            · (intro w hSw; (try dsimp only at hSw); go_simp <;> with_reducible rfl)
            try simp only [Act.put, List.setIfInBounds_toArray, List.set_cons_zero, List.set_cons_succ]
            refine wpAnyH_done (by kernel_rfl) ?_ _
            clear hHeld
            go_wp2_with fail
            go_roundw
            case rel => exact ⟨j + 1, sk, by omega, by go_num, rfl, hsk2, (hB.drew).drew⟩
            case measure => first | (simp [intOf]; done) | (simp [intOf]; omega)
          · have f1 : ((a2 : Int) == (k : Int)) = false := by rw [beq_eq_false_iff_ne]; omega
            have f2 : (a2 == k) = false := by rw [beq_eq_false_iff_ne]; exact q2
            clear q2
            go_wp2_with fail
            refine wp_region_held_drew (S := (fun w' => (w'.cell? ⟨ga, oa + j * 3, none⟩ = some (.int .i64 (a1 : Nat)) ∧ w'.cell? ⟨ga, oa + j * 3 + 1, none⟩ = some (.int .i64 (a2 : Nat)) ∧ w'.cell? ⟨ga, oa + j * 3 + 2, none⟩ = some (.int .i64 (a3 : Nat)) ∧ w'.cell? ⟨B10, 1, none⟩ = some (.int .i64 (c : Nat))) ∧ Below wr.heap.size wr w')) (by kernel_rfl) ?_ (fun hHeld => ?_)
            · (try dsimp only)
              (first | assumption | (exact ⟨⟨r0, r1, r2, xc⟩, (Below.refl _ _).drew⟩))
            refine takeL 0 (v := ?_) rfl (by kernel_rfl) (by kernel_rfl) (by kernel_rfl) (fun _ _ _ h => h) (by rfl) (by assumption) ?_ ?_
            rotate_left
            · (intro w hSw; (try dsimp only at hSw); go_simp <;> with_reducible rfl)
            try simp only [Act.put, List.setIfInBounds_toArray, List.set_cons_zero, List.set_cons_succ]
            refine takeL 1 (v := ?_) rfl (by kernel_rfl) (by kernel_rfl) (by kernel_rfl) (fun _ _ _ h => h) (by rfl) (by assumption) ?_ ?_
            rotate_left
            · (intro w hSw; (try dsimp only at hSw); go_simp <;> with_reducible rfl)
            try simp only [Act.put, List.setIfInBounds_toArray, List.set_cons_zero, List.set_cons_succ]
            refine takeL 2 (v := ?_) rfl (by kernel_rfl) (by kernel_rfl) (by kernel_rfl) (fun _ _ _ h => h) (by rfl) (by assumption) ?_ ?_
            rotate_left
            · (intro w hSw; (try dsimp only at hSw); go_simp <;> with_reducible rfl)
            try simp only [Act.put, List.setIfInBounds_toArray, List.set_cons_zero, List.set_cons_succ]
            refine takeL 3 (v := ?_) rfl (by kernel_rfl) (by kernel_rfl) (by kernel_rfl) (fun _ _ _ h => h) (by rfl) (by assumption) ?_ ?_
            rotate_left
            · (intro w hSw; (try dsimp only at hSw); go_simp <;> with_reducible rfl)
            try simp only [Act.put, List.setIfInBounds_toArray, List.set_cons_zero, List.set_cons_succ]
            refine takeL 4 (v := ?_) rfl (by kernel_rfl) (by kernel_rfl) (by kernel_rfl) (fun _ _ _ h => h) (by rfl) (by assumption) ?_ ?_
            rotate_left
            · (intro w hSw; (try dsimp only at hSw); go_simp <;> with_reducible rfl)
            try simp only [Act.put, List.setIfInBounds_toArray, List.set_cons_zero, List.set_cons_succ]
            refine takeL 5 (v := ?_) rfl (by kernel_rfl) (by kernel_rfl) (by kernel_rfl) (fun _ _ _ h => h) (by rfl) (by assumption) ?_ ?_
            rotate_left
            · (intro w hSw; (try dsimp only at hSw); go_simp <;> with_reducible rfl)
            try simp only [Act.put, List.setIfInBounds_toArray, List.set_cons_zero, List.set_cons_succ]
            refine takeL 6 (v := ?_) rfl (by kernel_rfl) (by kernel_rfl) (by kernel_rfl) (fun _ _ _ h => h) (by rfl) (by assumption) ?_ ?_
            rotate_left
            · (intro w hSw; (try dsimp only at hSw); go_simp <;> with_reducible rfl)
            try simp only [Act.put, List.setIfInBounds_toArray, List.set_cons_zero, List.set_cons_succ]
            refine takeL 7 (v := ?_) rfl (by kernel_rfl) (by kernel_rfl) (by kernel_rfl) (fun _ _ _ h => h) (by rfl) (by assumption) ?_ ?_
            rotate_left
            · (intro w hSw; (try dsimp only at hSw); go_simp <;> with_reducible rfl)
            try simp only [Act.put, List.setIfInBounds_toArray, List.set_cons_zero, List.set_cons_succ]
            refine oneL 8 rfl (by kernel_rfl) (fun K hK => ?_)
            go_simp
            (refine (Calls.mono (hBk.out _) ?_); rintro e w9 ⟨rfl, rfl⟩)
            refine hK.out _ _ ?_ (fun hHeld2 => ?_)
            · (try dsimp only)
              (first | assumption | (exact ⟨⟨r0, r1, r2, xc⟩, (Below.refl _ _).drew⟩))
            clear hK K hHeld
            have hHeld := hHeld2
            clear hHeld2
            try simp only [Act.put, List.setIfInBounds_toArray, List.set_cons_zero, List.set_cons_succ]
            refine takeL 9 (v := ?_) rfl (by kernel_rfl) (by kernel_rfl) (by kernel_rfl) (fun _ _ _ h => h) (by rfl) (by assumption) ?_ ?_
            rotate_left
            · (intro w hSw; (try dsimp only at hSw); go_simp <;> with_reducible rfl)
            try simp only [Act.put, List.setIfInBounds_toArray, List.set_cons_zero, List.set_cons_succ]
            refine takeL 10 (v := ?_) rfl (by kernel_rfl) (by kernel_rfl) (by kernel_rfl) (fun _ _ _ h => h) (by rfl) (by assumption) ?_ ?_
            rotate_left
            · (intro w hSw; (try dsimp only at hSw); go_simp <;> with_reducible rfl)
            try simp only [Act.put, List.setIfInBounds_toArray, List.set_cons_zero, List.set_cons_succ]
            refine wpAnyH_done (by kernel_rfl) ?_ _
            clear hHeld hne
            go_wp2_with fail
            refine wp_region_held_drew (S := (fun w' => (w'.cell? ⟨ga, oa + j * 3, none⟩ = some (.int .i64 (a1 : Nat)) ∧ w'.cell? ⟨ga, oa + j * 3 + 1, none⟩ = some (.int .i64 (a2 : Nat)) ∧ w'.cell? ⟨ga, oa + j * 3 + 2, none⟩ = some (.int .i64 (a3 : Nat))) ∧ (w'.cell? ⟨gb, ob + q * 3, none⟩ = some (.int .i64 (a1 : Nat)) ∧ w'.cell? ⟨gb, ob + q * 3 + 1, none⟩ = some (.int .i64 (a2 : Nat)) ∧ w'.cell? ⟨gb, ob + q * 3 + 2, none⟩ = some (.int .i64 (a3 : Nat))))) (by kernel_rfl) ?_ (fun hHeld => ?_)
            · (try dsimp only)
              (first | assumption | (exact ⟨⟨r0, r1, r2⟩, ⟨s0, s1, s2⟩⟩))
            refine takeL 0 (v := ?_) rfl (by kernel_rfl) (by kernel_rfl) (by kernel_rfl) (fun _ _ _ h => h) (by rfl) (by assumption) ?_ ?_
            rotate_left
            · (intro w hSw; (try dsimp only at hSw); go_simp <;> with_reducible rfl)
            try simp only [Act.put, List.setIfInBounds_toArray, List.set_cons_zero, List.set_cons_succ]
            refine takeL 1 (v := ?_) rfl (by kernel_rfl) (by kernel_rfl) (by kernel_rfl) (fun _ _ _ h => h) (by rfl) (by assumption) ?_ ?_
            rotate_left
            · (intro w hSw; (try dsimp only at hSw); go_simp <;> with_reducible rfl)
            try simp only [Act.put, List.setIfInBounds_toArray, List.set_cons_zero, List.set_cons_succ]
            refine takeL 2 (v := ?_) rfl (by kernel_rfl) (by kernel_rfl) (by kernel_rfl) (fun _ _ _ h => h) (by rfl) (by assumption) ?_ ?_
            rotate_left
            · (intro w hSw; (try dsimp only at hSw); go_simp <;> with_reducible rfl)
            try simp only [Act.put, List.setIfInBounds_toArray, List.set_cons_zero, List.set_cons_succ]
            refine takeL 3 (v := ?_) rfl (by kernel_rfl) (by kernel_rfl) (by kernel_rfl) (fun _ _ _ h => h) (by rfl) (by assumption) ?_ ?_
            rotate_left
            · (intro w hSw; (try dsimp only at hSw); go_simp <;> with_reducible rfl)
            try simp only [Act.put, List.setIfInBounds_toArray, List.set_cons_zero, List.set_cons_succ]
            refine takeL 4 (v := ?_) rfl (by kernel_rfl) (by kernel_rfl) (by kernel_rfl) (fun _ _ _ h => h) (by rfl) (by assumption) ?_ ?_
            rotate_left
            · (intro w hSw; (try dsimp only at hSw); go_simp <;> with_reducible rfl)
            try simp only [Act.put, List.setIfInBounds_toArray, List.set_cons_zero, List.set_cons_succ]
            refine takeL 5 (v := ?_) rfl (by kernel_rfl) (by kernel_rfl) (by kernel_rfl) (fun _ _ _ h => h) (by rfl) (by assumption) ?_ ?_
            rotate_left
            · (intro w hSw; (try dsimp only at hSw); go_simp <;> with_reducible rfl)
            try simp only [Act.put, List.setIfInBounds_toArray, List.set_cons_zero, List.set_cons_succ]
            refine takeL 6 (v := ?_) rfl (by kernel_rfl) (by kernel_rfl) (by kernel_rfl) (fun _ _ _ h => h) (by rfl) (by assumption) ?_ ?_
            rotate_left
            · (intro w hSw; (try dsimp only at hSw); go_simp <;> with_reducible rfl)
            try simp only [Act.put, List.setIfInBounds_toArray, List.set_cons_zero, List.set_cons_succ]
            refine takeL 7 (v := ?_) rfl (by kernel_rfl) (by kernel_rfl) (by kernel_rfl) (fun _ _ _ h => h) (by rfl) (by assumption) ?_ ?_
            rotate_left
            · (intro w hSw; (try dsimp only at hSw); go_simp <;> with_reducible rfl)
            try simp only [Act.put, List.setIfInBounds_toArray, List.set_cons_zero, List.set_cons_succ]
            refine takeL 8 (v := ?_) rfl (by kernel_rfl) (by kernel_rfl) (by kernel_rfl) (fun _ _ _ h => h) (by rfl) (by assumption) ?_ ?_
            rotate_left
            · (intro w hSw; (try dsimp only at hSw); go_simp <;> with_reducible rfl)
            try simp only [Act.put, List.setIfInBounds_toArray, List.set_cons_zero, List.set_cons_succ]
            refine takeL 9 (v := ?_) rfl (by kernel_rfl) (by kernel_rfl) (by kernel_rfl) (fun _ _ _ h => h) (by rfl) (by assumption) ?_ ?_
            rotate_left
            · (intro w hSw; (try dsimp only at hSw); go_simp <;> with_reducible rfl)
            try simp only [Act.put, List.setIfInBounds_toArray, List.set_cons_zero, List.set_cons_succ]
            refine takeL 10 (v := ?_) rfl (by kernel_rfl) (by kernel_rfl) (by kernel_rfl) (fun _ _ _ h => h) (by rfl) (by assumption) ?_ ?_
            rotate_left
            · (intro w hSw; (try dsimp only at hSw); go_simp <;> with_reducible rfl)
            try simp only [Act.put, List.setIfInBounds_toArray, List.set_cons_zero, List.set_cons_succ]
            refine takeL 11 (v := ?_) rfl (by kernel_rfl) (by kernel_rfl) (by kernel_rfl) (fun _ _ _ h => h) (by rfl) (by assumption) ?_ ?_
            rotate_left
            · (intro w hSw; (try dsimp only at hSw); go_simp <;> with_reducible rfl)
            try simp only [Act.put, List.setIfInBounds_toArray, List.set_cons_zero, List.set_cons_succ]
            refine takeL 12 (v := ?_) rfl (by kernel_rfl) (by kernel_rfl) (by kernel_rfl) (fun _ _ _ h => h) (by rfl) (by assumption) ?_ ?_
            rotate_left
            · (intro w hSw; (try dsimp only at hSw); go_simp <;> with_reducible rfl)
            try simp only [Act.put, List.setIfInBounds_toArray, List.set_cons_zero, List.set_cons_succ]
            refine takeL 13 (v := ?_) rfl (by kernel_rfl) (by kernel_rfl) (by kernel_rfl) (fun _ _ _ h => h) (by rfl) (by assumption) ?_ ?_
            rotate_left
            · (intro w hSw; (try dsimp only at hSw); go_simp <;> with_reducible rfl)
            try simp only [Act.put, List.setIfInBounds_toArray, List.set_cons_zero, List.set_cons_succ]
            refine takeL 14 (v := ?_) rfl (by kernel_rfl) (by kernel_rfl) (by kernel_rfl) (fun _ _ _ h => h) (by rfl) (by assumption) ?_ ?_
            rotate_left
            · (intro w hSw; (try dsimp only at hSw); go_simp <;> with_reducible rfl)
            try simp only [Act.put, List.setIfInBounds_toArray, List.set_cons_zero, List.set_cons_succ]
            refine takeL 15 (v := ?_) rfl (by kernel_rfl) (by kernel_rfl) (by kernel_rfl) (fun _ _ _ h => h) (by rfl) (by assumption) ?_ ?_
            rotate_left
            · (intro w hSw; (try dsimp only at hSw); go_simp <;> with_reducible rfl)
            try simp only [Act.put, List.setIfInBounds_toArray, List.set_cons_zero, List.set_cons_succ]
            refine takeL 16 (v := ?_) rfl (by kernel_rfl) (by kernel_rfl) (by kernel_rfl) (fun _ _ _ h => h) (by rfl) (by assumption) ?_ ?_
            rotate_left
            · (intro w hSw; (try dsimp only at hSw); go_simp <;> with_reducible rfl)
            try simp only [Act.put, List.setIfInBounds_toArray, List.set_cons_zero, List.set_cons_succ]
            refine takeL 17 (v := ?_) rfl (by kernel_rfl) (by kernel_rfl) (by kernel_rfl) (fun _ _ _ h => h) (by rfl) (by assumption) ?_ ?_
            rotate_left
            · (intro w hSw; (try dsimp only at hSw); go_simp <;> with_reducible rfl)
            try simp only [Act.put, List.setIfInBounds_toArray, List.set_cons_zero, List.set_cons_succ]
            refine takeL 18 (v := ?_) rfl (by kernel_rfl) (by kernel_rfl) (by kernel_rfl) (fun _ _ _ h => h) (by rfl) (by assumption) ?_ ?_
            rotate_left
            · (intro w hSw; (try dsimp only at hSw); go_simp <;> with_reducible rfl)
            try simp only [Act.put, List.setIfInBounds_toArray, List.set_cons_zero, List.set_cons_succ]
            refine wpAnyH_done (by kernel_rfl) ?_ _
            clear hHeld
            go_wp2_with fail
            go_roundw
            case rel => exact ⟨j + 1, sk, by omega, by go_num, rfl, hsk2, (hB.drew).drew⟩
            case measure => first | (simp [intOf]; done) | (simp [intOf]; omega)
        · have f1 : ((a1 : Int) == (i : Int)) = false := by rw [beq_eq_false_iff_ne]; omega
          have f2 : (a1 == i) = false := by rw [beq_eq_false_iff_ne]; exact q1
          clear q1
          go_wp2_with fail
          refine wp_region_held_drew (S := (fun w' => (w'.cell? ⟨ga, oa + j * 3, none⟩ = some (.int .i64 (a1 : Nat)) ∧ w'.cell? ⟨ga, oa + j * 3 + 1, none⟩ = some (.int .i64 (a2 : Nat)) ∧ w'.cell? ⟨ga, oa + j * 3 + 2, none⟩ = some (.int .i64 (a3 : Nat)) ∧ w'.cell? ⟨B10, 1, none⟩ = some (.int .i64 (c : Nat))) ∧ Below wr.heap.size wr w')) (by kernel_rfl) ?_ (fun hHeld => ?_)
          · (try dsimp only)
            (first | assumption | (exact ⟨⟨r0, r1, r2, xc⟩, (Below.refl _ _).drew⟩))
          refine takeL 0 (v := ?_) rfl (by kernel_rfl) (by kernel_rfl) (by kernel_rfl) (fun _ _ _ h => h) (by rfl) (by assumption) ?_ ?_
          rotate_left
          · (intro w hSw; (try dsimp only at hSw); go_simp <;> with_reducible rfl)
          try simp only [Act.put, List.setIfInBounds_toArray, List.set_cons_zero, List.set_cons_succ]
          refine takeL 1 (v := ?_) rfl (by kernel_rfl) (by kernel_rfl) (by kernel_rfl) (fun _ _ _ h => h) (by rfl) (by assumption) ?_ ?_
          rotate_left
          · (intro w hSw; (try dsimp only at hSw); go_simp <;> with_reducible rfl)
          try simp only [Act.put, List.setIfInBounds_toArray, List.set_cons_zero, List.set_cons_succ]
          refine takeL 2 (v := ?_) rfl (by kernel_rfl) (by kernel_rfl) (by kernel_rfl) (fun _ _ _ h => h) (by rfl) (by assumption) ?_ ?_
          rotate_left
          · (intro w hSw; (try dsimp only at hSw); go_simp <;> with_reducible rfl)
          try simp only [Act.put, List.setIfInBounds_toArray, List.set_cons_zero, List.set_cons_succ]
          refine takeL 3 (v := ?_) rfl (by kernel_rfl) (by kernel_rfl) (by kernel_rfl) (fun _ _ _ h => h) (by rfl) (by assumption) ?_ ?_
          rotate_left
          · (intro w hSw; (try dsimp only at hSw); go_simp <;> with_reducible rfl)
          try simp only [Act.put, List.setIfInBounds_toArray, List.set_cons_zero, List.set_cons_succ]
          refine takeL 4 (v := ?_) rfl (by kernel_rfl) (by kernel_rfl) (by kernel_rfl) (fun _ _ _ h => h) (by rfl) (by assumption) ?_ ?_
          rotate_left
          · (intro w hSw; (try dsimp only at hSw); go_simp <;> with_reducible rfl)
          try simp only [Act.put, List.setIfInBounds_toArray, List.set_cons_zero, List.set_cons_succ]
          refine takeL 5 (v := ?_) rfl (by kernel_rfl) (by kernel_rfl) (by kernel_rfl) (fun _ _ _ h => h) (by rfl) (by assumption) ?_ ?_
          rotate_left
          · (intro w hSw; (try dsimp only at hSw); go_simp <;> with_reducible rfl)
          try simp only [Act.put, List.setIfInBounds_toArray, List.set_cons_zero, List.set_cons_succ]
          refine takeL 6 (v := ?_) rfl (by kernel_rfl) (by kernel_rfl) (by kernel_rfl) (fun _ _ _ h => h) (by rfl) (by assumption) ?_ ?_
          rotate_left
          · (intro w hSw; (try dsimp only at hSw); go_simp <;> with_reducible rfl)
          try simp only [Act.put, List.setIfInBounds_toArray, List.set_cons_zero, List.set_cons_succ]
          refine takeL 7 (v := ?_) rfl (by kernel_rfl) (by kernel_rfl) (by kernel_rfl) (fun _ _ _ h => h) (by rfl) (by assumption) ?_ ?_
          rotate_left
          · (intro w hSw; (try dsimp only at hSw); go_simp <;> with_reducible rfl)
          try simp only [Act.put, List.setIfInBounds_toArray, List.set_cons_zero, List.set_cons_succ]
          refine oneL 8 rfl (by kernel_rfl) (fun K hK => ?_)
          go_simp
          (refine (Calls.mono (hBk.out _) ?_); rintro e w9 ⟨rfl, rfl⟩)
          refine hK.out _ _ ?_ (fun hHeld2 => ?_)
          · (try dsimp only)
            (first | assumption | (exact ⟨⟨r0, r1, r2, xc⟩, (Below.refl _ _).drew⟩))
          clear hK K hHeld
          have hHeld := hHeld2
          clear hHeld2
          try simp only [Act.put, List.setIfInBounds_toArray, List.set_cons_zero, List.set_cons_succ]
          refine takeL 9 (v := ?_) rfl (by kernel_rfl) (by kernel_rfl) (by kernel_rfl) (fun _ _ _ h => h) (by rfl) (by assumption) ?_ ?_
          rotate_left
          · (intro w hSw; (try dsimp only at hSw); go_simp <;> with_reducible rfl)
          try simp only [Act.put, List.setIfInBounds_toArray, List.set_cons_zero, List.set_cons_succ]
          refine takeL 10 (v := ?_) rfl (by kernel_rfl) (by kernel_rfl) (by kernel_rfl) (fun _ _ _ h => h) (by rfl) (by assumption) ?_ ?_
          rotate_left
          · (intro w hSw; (try dsimp only at hSw); go_simp <;> with_reducible rfl)
          try simp only [Act.put, List.setIfInBounds_toArray, List.set_cons_zero, List.set_cons_succ]
          refine wpAnyH_done (by kernel_rfl) ?_ _
          clear hHeld hne
          go_wp2_with fail
          refine wp_region_held_drew (S := (fun w' => (w'.cell? ⟨ga, oa + j * 3, none⟩ = some (.int .i64 (a1 : Nat)) ∧ w'.cell? ⟨ga, oa + j * 3 + 1, none⟩ = some (.int .i64 (a2 : Nat)) ∧ w'.cell? ⟨ga, oa + j * 3 + 2, none⟩ = some (.int .i64 (a3 : Nat))) ∧ (w'.cell? ⟨gb, ob + q * 3, none⟩ = some (.int .i64 (a1 : Nat)) ∧ w'.cell? ⟨gb, ob + q * 3 + 1, none⟩ = some (.int .i64 (a2 : Nat)) ∧ w'.cell? ⟨gb, ob + q * 3 + 2, none⟩ = some (.int .i64 (a3 : Nat))))) (by kernel_rfl) ?_ (fun hHeld => ?_)
          · (try dsimp only)
            (first | assumption | (exact ⟨⟨r0, r1, r2⟩, ⟨s0, s1, s2⟩⟩))
          refine takeL 0 (v := ?_) rfl (by kernel_rfl) (by kernel_rfl) (by kernel_rfl) (fun _ _ _ h => h) (by rfl) (by assumption) ?_ ?_
          rotate_left
          · (intro w hSw; (try dsimp only at hSw); go_simp <;> with_reducible rfl)
          try simp only [Act.put, List.setIfInBounds_toArray, List.set_cons_zero, List.set_cons_succ]
          refine takeL 1 (v := ?_) rfl (by kernel_rfl) (by kernel_rfl) (by kernel_rfl) (fun _ _ _ h => h) (by rfl) (by assumption) ?_ ?_
          rotate_left
          · (intro w hSw; (try dsimp only at hSw); go_simp <;> with_reducible rfl)
          try simp only [Act.put, List.setIfInBounds_toArray, List.set_cons_zero, List.set_cons_succ]
          refine takeL 2 (v := ?_) rfl (by kernel_rfl) (by kernel_rfl) (by kernel_rfl) (fun _ _ _ h => h) (by rfl) (by assumption) ?_ ?_
          rotate_left
          · (intro w hSw; (try dsimp only at hSw); go_simp <;> with_reducible rfl)
          try simp only [Act.put, List.setIfInBounds_toArray, List.set_cons_zero, List.set_cons_succ]
          refine takeL 3 (v := ?_) rfl (by kernel_rfl) (by kernel_rfl) (by kernel_rfl) (fun _ _ _ h => h) (by rfl) (by assumption) ?_ ?_
          rotate_left
          · (intro w hSw; (try dsimp only at hSw); go_simp <;> with_reducible rfl)
          try simp only [Act.put, List.setIfInBounds_toArray, List.set_cons_zero, List.set_cons_succ]
          refine takeL 4 (v := ?_) rfl (by kernel_rfl) (by kernel_rfl) (by kernel_rfl) (fun _ _ _ h => h) (by rfl) (by assumption) ?_ ?_
          rotate_left
          · (intro w hSw; (try dsimp only at hSw); go_simp <;> with_reducible rfl)
          try simp only [Act.put, List.setIfInBounds_toArray, List.set_cons_zero, List.set_cons_succ]
          refine takeL 5 (v := ?_) rfl (by kernel_rfl) (by kernel_rfl) (by kernel_rfl) (fun _ _ _ h => h) (by rfl) (by assumption) ?_ ?_
          rotate_left
          · (intro w hSw; (try dsimp only at hSw); go_simp <;> with_reducible rfl)
          try simp only [Act.put, List.setIfInBounds_toArray, List.set_cons_zero, List.set_cons_succ]
          refine takeL 6 (v := ?_) rfl (by kernel_rfl) (by kernel_rfl) (by kernel_rfl) (fun _ _ _ h => h) (by rfl) (by assumption) ?_ ?_
          rotate_left
          · (intro w hSw; (try dsimp only at hSw); go_simp <;> with_reducible rfl)
          try simp only [Act.put, List.setIfInBounds_toArray, List.set_cons_zero, List.set_cons_succ]
          refine takeL 7 (v := ?_) rfl (by kernel_rfl) (by kernel_rfl) (by kernel_rfl) (fun _ _ _ h => h) (by rfl) (by assumption) ?_ ?_
          rotate_left
          · (intro w hSw; (try dsimp only at hSw); go_simp <;> with_reducible rfl)
          try simp only [Act.put, List.setIfInBounds_toArray, List.set_cons_zero, List.set_cons_succ]
          refine takeL 8 (v := ?_) rfl (by kernel_rfl) (by kernel_rfl) (by kernel_rfl) (fun _ _ _ h => h) (by rfl) (by assumption) ?_ ?_
          rotate_left
          · (intro w hSw; (try dsimp only at hSw); go_simp <;> with_reducible rfl)
          try simp only [Act.put, List.setIfInBounds_toArray, List.set_cons_zero, List.set_cons_succ]
          refine takeL 9 (v := ?_) rfl (by kernel_rfl) (by kernel_rfl) (by kernel_rfl) (fun _ _ _ h => h) (by rfl) (by assumption) ?_ ?_
          rotate_left
          · (intro w hSw; (try dsimp only at hSw); go_simp <;> with_reducible rfl)
          try simp only [Act.put, List.setIfInBounds_toArray, List.set_cons_zero, List.set_cons_succ]
          refine takeL 10 (v := ?_) rfl (by kernel_rfl) (by kernel_rfl) (by kernel_rfl) (fun _ _ _ h => h) (by rfl) (by assumption) ?_ ?_
          rotate_left
          · (intro w hSw; (try dsimp only at hSw); go_simp <;> with_reducible rfl)
          try simp only [Act.put, List.setIfInBounds_toArray, List.set_cons_zero, List.set_cons_succ]
          refine takeL 11 (v := ?_) rfl (by kernel_rfl) (by kernel_rfl) (by kernel_rfl) (fun _ _ _ h => h) (by rfl) (by assumption) ?_ ?_
          rotate_left
          · (intro w hSw; (try dsimp only at hSw); go_simp <;> with_reducible rfl)
          try simp only [Act.put, List.setIfInBounds_toArray, List.set_cons_zero, List.set_cons_succ]
          refine takeL 12 (v := ?_) rfl (by kernel_rfl) (by kernel_rfl) (by kernel_rfl) (fun _ _ _ h => h) (by rfl) (by assumption) ?_ ?_
          rotate_left
          · (intro w hSw; (try dsimp only at hSw); go_simp <;> with_reducible rfl)
          try simp only [Act.put, List.setIfInBounds_toArray, List.set_cons_zero, List.set_cons_succ]
          refine takeL 13 (v := ?_) rfl (by kernel_rfl) (by kernel_rfl) (by kernel_rfl) (fun _ _ _ h => h) (by rfl) (by assumption) ?_ ?_
          rotate_left
          · (intro w hSw; (try dsimp only at hSw); go_simp <;> with_reducible rfl)
          try simp only [Act.put, List.setIfInBounds_toArray, List.set_cons_zero, List.set_cons_succ]
          refine takeL 14 (v := ?_) rfl (by kernel_rfl) (by kernel_rfl) (by kernel_rfl) (fun _ _ _ h => h) (by rfl) (by assumption) ?_ ?_
          rotate_left
          · (intro w hSw; (try dsimp only at hSw); go_simp <;> with_reducible rfl)
          try simp only [Act.put, List.setIfInBounds_toArray, List.set_cons_zero, List.set_cons_succ]
          refine takeL 15 (v := ?_) rfl (by kernel_rfl) (by kernel_rfl) (by kernel_rfl) (fun _ _ _ h => h) (by rfl) (by assumption) ?_ ?_
          rotate_left
          · (intro w hSw; (try dsimp only at hSw); go_simp <;> with_reducible rfl)
          try simp only [Act.put, List.setIfInBounds_toArray, List.set_cons_zero, List.set_cons_succ]
          refine takeL 16 (v := ?_) rfl (by kernel_rfl) (by kernel_rfl) (by kernel_rfl) (fun _ _ _ h => h) (by rfl) (by assumption) ?_ ?_
          rotate_left
          · (intro w hSw; (try dsimp only at hSw); go_simp <;> with_reducible rfl)
          try simp only [Act.put, List.setIfInBounds_toArray, List.set_cons_zero, List.set_cons_succ]
          refine takeL 17 (v := ?_) rfl (by kernel_rfl) (by kernel_rfl) (by kernel_rfl) (fun _ _ _ h => h) (by rfl) (by assumption) ?_ ?_
          rotate_left
          · (intro w hSw; (try dsimp only at hSw); go_simp <;> with_reducible rfl)
          try simp only [Act.put, List.setIfInBounds_toArray, List.set_cons_zero, List.set_cons_succ]
          refine takeL 18 (v := ?_) rfl (by kernel_rfl) (by kernel_rfl) (by kernel_rfl) (fun _ _ _ h => h) (by rfl) (by assumption) ?_ ?_
          rotate_left
          · (intro w hSw; (try dsimp only at hSw); go_simp <;> with_reducible rfl)
          try simp only [Act.put, List.setIfInBounds_toArray, List.set_cons_zero, List.set_cons_succ]
          refine wpAnyH_done (by kernel_rfl) ?_ _
          clear hHeld
          go_wp2_with fail
          go_roundw
          case rel => exact ⟨j + 1, sk, by omega, by go_num, rfl, hsk2, (hB.drew).drew⟩
          case measure => first | (simp [intOf]; done) | (simp [intOf]; omega)
    · obtain rfl : j = la := by omega
      have hs1 : sk = 1 := by rw [hsk.out, if_neg (by omega)]
      subst hs1
      have h11 : (((1 : Nat) : Int)) = 1 := rfl
      go_wp2_with fail
      go_ret
      exact ⟨rfl, hBw⟩
end Go.Proofs.YtnjifmecaeagaaaDoor
