/-
  The laws of package seal: SealBursts (the law).
-/
import Derived.Test.YthklgmpphfdfoaaSealB2
import Derived.ArgAppend
set_option linter.unusedVariables false
namespace Go.Proofs.Ythklgmpphfdfoaa
open Go.RowKit

set_option maxRecDepth 10000 in
set_option maxHeartbeats 1000000 in
theorem sealBursts_in (a B : Nat) (l : List Nat) (N g off cap : Nat) (w : World) (ha : a < 65536) (hB : B < 4294967296) (hl : WL l) (hlen : N + 1 ≤ 40) (hn : l.length = N + 1) (hcap : N + 1 ≤ cap) (hg : g < w.heap.size) (hc : Hid (∀ i, i < N + 1 → w.cell? ⟨g, off + i, none⟩ = some (.int .u64 (l.getD i 0 : Nat)))) :
    Calls Try.prog 6 #[.slice (some ⟨g, off, none⟩) (N + 1) cap, .int .u16 a, .int .u32 B] w fun e w' => e = .returned (.bool true) ∧ Below w.heap.size w w' := by
  obtain ⟨i0, hi, hz0, hz1, hz2⟩ := info_parts infoU64
  have hS := Lib.hid (show SL w (.slice (some ⟨g, off, none⟩) (N + 1) cap) l from .inr ⟨g, off, cap, by rw [hn], hg, by omega, fun i hi => hc.out i (by omega)⟩)
  have hb40 : ¬ (40 : Int) < (N : Int) + 1 := by omega
  have q5 : ¬ (N : Int) + 1 = 0 := by omega
  have q5b : ((N : Int) + 1 == 0) = false := by rw [beq_eq_false_iff_ne]; exact q5
  have q40 : decide ((40 : Int) < (N : Int) + 1) = false := decide_eq_false hb40
  have hone : ∀ u ∈ wv l, u.oneCell' = true := fun u hu => by
    unfold wv at hu
    obtain ⟨x, _, rfl⟩ := List.mem_map.1 hu
    rfl
  have hnews : ∀ w1, Below w.heap.size w w1 → ∀ j u, (wv l)[j]? = some u → w1.cell? ((⟨g, off, none⟩ : Addr).add j) = some u := fun w1 hb j u hj => by
    have hj' : j < N + 1 := by
      have := (List.getElem?_eq_some_iff.1 hj).1
      rw [wv_len] at this
      omega
    rw [wv_at l j (by omega)] at hj
    rw [← hj, show (⟨g, off, none⟩ : Addr).add j = ⟨g, off + j, none⟩ by simp [Addr.add], (bcell hb).1 _ _ hg]
    exact hc.out j hj'
  replace hone := Lib.hid hone
  replace hnews := Lib.hid hnews
  go_enter Try.func6, Try.ntmps6
  go_wp2_with fail
  refine (awake02 _).mono ?_
  rintro e w1 ⟨rfl, hb1⟩
  have hA1 := hb1.alloc hb1.size (.cells #[] 30)
  go_wp2_with (at_builtin; refine wpList_append_own _ rfl _ _ 22 rfl w.heap.size 30 i0 (.int .u64 0) 1 8 Try.underlying22 hi hz0 hz1 hz2 rfl (by decide) _ _ _ rfl (World.ownsRow_lit w1 #[] 0 hb1.size (by unfold maxLen; omega) rfl) ⟨g, off, none⟩ (N + 1) cap (wv l) rfl (by rw [wv_len]; omega) (hnews.out _ hA1) hone.out (by unfold maxLen; omega) (by omega) hA1.size ?_; intro v2 w2 hown2 hgr _)
  have R2 : Below w.heap.size w w2 := hA1.grown hgr hA1.size (own_ge (World.ownsRow_lit (e := 30) (size := 1) w1 #[] 0 hb1.size (by unfold maxLen; omega) rfl))
  simp only [Nat.zero_add, List.nil_append] at hown2
  obtain ⟨gx, cx, rfl, hgx0⟩ : ∃ gx cx, v2 = .slice (some ⟨gx, 0, none⟩) (N + 1) cx ∧ w.heap.size ≤ gx := by
    rcases hown2.2 with ⟨_, hz⟩ | ⟨g2, c2, cur, hv, hb2, _⟩
    · omega
    · exact ⟨g2, c2, hv, hb2⟩
  obtain ⟨k, hk⟩ : ∃ k, k = a % (64 * (N + 1)) := ⟨_, rfl⟩
  have hkM : k < 64 * (N + 1) := by rw [hk]; exact Nat.mod_lt _ (by omega)
  clear hgr hA1 hone
  have hk2 := Lib.hid (show (a : Int) % (64 * ((N : Int) + 1)) = (k : Int) from by rw [hk]; simp)
  clear hk
  simp only [hk2.out]
  have hflip0 : wv l = wv (flipL l k (B % 2 ^ 0)) := by
    rw [Nat.pow_zero, Nat.mod_one]
    congr 1
    exact ((flip_same l k 0 (by omega)).2 (by simp)).symm
  rw [hflip0] at hown2
  have hBU := Lib.hid (fun i => flip_skip l B k i)
  have hBS := Lib.hid (fun i => flip_step l B k i)
  have hFL := Lib.hid (fun b j => flip_at l k b j)
  have hFW := Lib.hid (fun b => flip_WL k b hl)
  go_loopw [10] (fun i wr => ∃ n : Nat, n ≤ 32 ∧ k + n ≤ 64 * (N + 1) ∧ i = .int .i64 n ∧ wr.ownsRow w.heap.size 30 1 (.slice (some ⟨gx, 0, none⟩) (N + 1) cx) (N + 1) (wv (flipL l k (B % 2 ^ n))) ∧ Below w.heap.size w wr) (fun i _ => 33 - (intOf i).toNat)
  case atStart => exact ⟨0, by omega, by omega, rfl, hown2, R2⟩
  case round =>
    obtain ⟨n, hn32, hnM, rfl, hown, hBw⟩ := hrel
    by_cases h32 : n < 32
    · have h32' : (n : Int) < 32 := by omega
      by_cases hkn : k + n < 64 * (N + 1)
      · have hkn' : (k : Int) + (n : Int) < 64 * ((N : Int) + 1) := by omega
        have hcell := hown.cellAt ((k + n) / 64) (by omega)
        rw [wv_at _ _ (by rw [flip_len]; omega)] at hcell
        have hfz := hown.frozenAt ((k + n) / 64)
        have hst := Lib.hid (hown.stored ((k + n) / 64))
        have hxl := (hFW.out (B % 2 ^ n)).at ((k + n) / 64) (by rw [flip_len]; omega)
        have hbd : B / 2 ^ n ≤ B := Nat.div_le_self _ _
        have T : (bits .and .u32 ((B : Int) / 2 ^ n) 1 == 1) = B.testBit n := by
          rw [pow_cast, show (B : Int) / ((2 ^ n : Nat) : Int) = ((B / 2 ^ n : Nat) : Int) by simp, show (1 : Int) = ((1 : Nat) : Int) from rfl, u32_and_nat _ 1 (by omega) (by omega), Nat.and_one_is_mod, Nat.testBit_eq_decide_div_mod_eq]
          have hz : B / 2 ^ n % 2 = 0 ∨ B / 2 ^ n % 2 = 1 := by omega
          rcases hz with hz | hz <;> rw [hz] <;> decide
        clear hbd
        cases hbit : B.testBit n
        · rw [hbit] at T
          have hsk := hBU.out n hbit
          clear hcell hfz hst hxl
          go_wp2_with fail
          go_roundw
          case rel => exact ⟨n + 1, by omega, by omega, by go_num, by rw [hsk]; exact hown, hBw⟩
          case measure => simp [intOf]; omega
        · rw [hbit] at T
          have hsk := Lib.hid (hBS.out n hbit (by omega))
          generalize hmm : k + n = mm at hcell hfz hst hxl hsk
          have hw1 : IntKind.i64.wrap ((k : Int) + (n : Int)) = (mm : Int) := by rw [IntWalk.i64_in _ ⟨by omega, by omega⟩]; omega
          have hdiv : (mm : Int).tdiv 64 = ((mm / 64 : Nat) : Int) := by rw [Int.tdiv_eq_ediv_of_nonneg (by omega)]; omega
          have hdiv2 : (mm : Int) / 64 = ((mm / 64 : Nat) : Int) := by omega
          have hrem : (mm : Int).tmod 64 = ((mm % 64 : Nat) : Int) := by rw [Int.tmod_eq_emod_of_nonneg (by omega)]; omega
          have hrem2 : (mm : Int) % 64 = ((mm % 64 : Nat) : Int) := by omega
          have hq1 : mm / 64 < N + 1 := by omega
          have ht1 : mm % 64 < 64 := by omega
          generalize hq0 : mm / 64 = q at hcell hfz hst hxl hsk hdiv hdiv2 hq1
          generalize ht0 : mm % 64 = t at hsk hrem hrem2 ht1
          clear hq0 ht0
          have hq2 : (q : Int) < (N : Int) + 1 := by omega
          have hwq : IntKind.i64.wrap (q : Int) = (q : Int) := IntWalk.i64_in _ ⟨by omega, by omega⟩
          have hwt : IntKind.i64.wrap (t : Int) = (t : Int) := IntWalk.i64_in _ ⟨by omega, by omega⟩
          replace hmm := Lib.hid hmm
          have hp := pow_lt64 (k := t) ht1
          have hwr : IntKind.u64.wrap ((2 : Int) ^ t) = ((2 ^ t : Nat) : Int) := by rw [IntKind.wrap_u64, pow_cast]; generalize 2 ^ t = y at *; omega
          generalize hX : (flipL l k (B % 2 ^ n)).getD q 0 = X at hcell hxl hsk
          have eX : bits .xor .u64 (X : Int) (IntKind.u64.wrap ((2 : Int) ^ t)) = ((X ^^^ 2 ^ t : Nat) : Int) := by rw [hwr]; exact u64_xor_nat X _ hxl (by omega)
          clear hX hwr hp
          go_wp2_with fail
          refine wp_region_held_drew (S := fun _ => True) (by kernel_rfl) trivial (fun hHeld => ?_)
          refine takeL 0 (v := ?_) rfl (by kernel_rfl) (by kernel_rfl) (by kernel_rfl) (fun _ _ _ h => h) (by rfl) trivial ?_ ?_
          rotate_left
          · (intro w hSw; go_simp <;> with_reducible rfl)
          try simp only [Act.put, List.setIfInBounds_toArray, List.set_cons_zero, List.set_cons_succ]
          refine takeL 1 (v := ?_) rfl (by kernel_rfl) (by kernel_rfl) (by kernel_rfl) (fun _ _ _ h => h) (by rfl) trivial ?_ ?_
          rotate_left
          · (intro w hSw; go_simp <;> with_reducible rfl)
          try simp only [Act.put, List.setIfInBounds_toArray, List.set_cons_zero, List.set_cons_succ]
          refine takeL 2 (v := ?_) rfl (by kernel_rfl) (by kernel_rfl) (by kernel_rfl) (fun _ _ _ h => h) (by rfl) trivial ?_ ?_
          rotate_left
          · (intro w hSw; go_simp <;> with_reducible rfl)
          try simp only [Act.put, List.setIfInBounds_toArray, List.set_cons_zero, List.set_cons_succ]
          refine takeL 3 (v := ?_) rfl (by kernel_rfl) (by kernel_rfl) (by kernel_rfl) (fun _ _ _ h => h) (by rfl) trivial ?_ ?_
          rotate_left
          · (intro w hSw; go_simp <;> with_reducible rfl)
          try simp only [Act.put, List.setIfInBounds_toArray, List.set_cons_zero, List.set_cons_succ]
          refine takeL 4 (v := ?_) rfl (by kernel_rfl) (by kernel_rfl) (by kernel_rfl) (fun _ _ _ h => h) (by rfl) trivial ?_ ?_
          rotate_left
          · (intro w hSw; go_simp <;> with_reducible rfl)
          try simp only [Act.put, List.setIfInBounds_toArray, List.set_cons_zero, List.set_cons_succ]
          refine takeL 5 (v := ?_) rfl (by kernel_rfl) (by kernel_rfl) (by kernel_rfl) (fun _ _ _ h => h) (by rfl) trivial ?_ ?_
          rotate_left
          · (intro w hSw; go_simp <;> with_reducible rfl)
          try simp only [Act.put, List.setIfInBounds_toArray, List.set_cons_zero, List.set_cons_succ]
          refine takeL 6 (v := ?_) rfl (by kernel_rfl) (by kernel_rfl) (by kernel_rfl) (fun _ _ _ h => h) (by rfl) trivial ?_ ?_
          rotate_left
          · (intro w hSw; go_simp <;> with_reducible rfl)
          try simp only [Act.put, List.setIfInBounds_toArray, List.set_cons_zero, List.set_cons_succ]
          refine takeL 7 (v := ?_) rfl (by kernel_rfl) (by kernel_rfl) (by kernel_rfl) (fun _ _ _ h => h) (by rfl) trivial ?_ ?_
          rotate_left
          · (intro w hSw; go_simp <;> with_reducible rfl)
          try simp only [Act.put, List.setIfInBounds_toArray, List.set_cons_zero, List.set_cons_succ]
          refine takeL 8 (v := ?_) rfl (by kernel_rfl) (by kernel_rfl) (by kernel_rfl) (fun _ _ _ h => h) (by rfl) trivial ?_ ?_
          rotate_left
          · (intro w hSw; go_simp <;> with_reducible rfl)
          try simp only [Act.put, List.setIfInBounds_toArray, List.set_cons_zero, List.set_cons_succ]
          refine takeL 9 (v := ?_) rfl (by kernel_rfl) (by kernel_rfl) (by kernel_rfl) (fun _ _ _ h => h) (by rfl) trivial ?_ ?_
          rotate_left
          · (intro w hSw; go_simp <;> with_reducible rfl)
          try simp only [Act.put, List.setIfInBounds_toArray, List.set_cons_zero, List.set_cons_succ]
          refine takeL 10 (v := ?_) rfl (by kernel_rfl) (by kernel_rfl) (by kernel_rfl) (fun _ _ _ h => h) (by rfl) trivial ?_ ?_
          rotate_left
          · (intro w hSw; go_simp <;> with_reducible rfl)
          try simp only [Act.put, List.setIfInBounds_toArray, List.set_cons_zero, List.set_cons_succ]
          refine takeL 12 (v := ?_) rfl (by kernel_rfl) (by kernel_rfl) (by kernel_rfl) (fun _ _ _ h => h) (by rfl) trivial ?_ ?_
          rotate_left
          · (intro w hSw; go_simp <;> with_reducible rfl)
          try simp only [Act.put, List.setIfInBounds_toArray, List.set_cons_zero, List.set_cons_succ]
          refine takeL 13 (v := ?_) rfl (by kernel_rfl) (by kernel_rfl) (by kernel_rfl) (fun _ _ _ h => h) (by rfl) trivial ?_ ?_
          rotate_left
          · (intro w hSw; go_simp <;> with_reducible rfl)
          try simp only [Act.put, List.setIfInBounds_toArray, List.set_cons_zero, List.set_cons_succ]
          refine takeL 14 (v := ?_) rfl (by kernel_rfl) (by kernel_rfl) (by kernel_rfl) (fun _ _ _ h => h) (by rfl) trivial ?_ ?_
          rotate_left
          · (intro w hSw; go_simp <;> with_reducible rfl)
          try simp only [Act.put, List.setIfInBounds_toArray, List.set_cons_zero, List.set_cons_succ]
          refine takeL 15 (v := ?_) rfl (by kernel_rfl) (by kernel_rfl) (by kernel_rfl) (fun _ _ _ h => h) (by rfl) trivial ?_ ?_
          rotate_left
          · (intro w hSw; go_simp <;> with_reducible rfl)
          try simp only [Act.put, List.setIfInBounds_toArray, List.set_cons_zero, List.set_cons_succ]
          refine takeL 16 (v := ?_) rfl (by kernel_rfl) (by kernel_rfl) (by kernel_rfl) (fun _ _ _ h => h) (by rfl) trivial ?_ ?_
          rotate_left
          · (intro w hSw; go_simp <;> with_reducible rfl)
          try simp only [Act.put, List.setIfInBounds_toArray, List.set_cons_zero, List.set_cons_succ]
          refine oneL 11 rfl (by kernel_rfl) (fun K hK => ?_)
          go_simp
          refine hK.out _ _ trivial (fun _ => ?_)
          clear hK K
          try simp only [Act.put, List.setIfInBounds_toArray, List.set_cons_zero, List.set_cons_succ]
          refine takeL 17 (v := ?_) rfl (by kernel_rfl) (by kernel_rfl) (by kernel_rfl) (fun _ _ _ h => h) (by rfl) trivial ?_ ?_
          rotate_left
          · (intro w hSw; go_simp <;> with_reducible rfl)
          try simp only [Act.put, List.setIfInBounds_toArray, List.set_cons_zero, List.set_cons_succ]
          refine takeL 18 (v := ?_) rfl (by kernel_rfl) (by kernel_rfl) (by kernel_rfl) (fun _ _ _ h => h) (by rfl) trivial ?_ ?_
          rotate_left
          · (intro w hSw; go_simp <;> with_reducible rfl)
          try simp only [Act.put, List.setIfInBounds_toArray, List.set_cons_zero, List.set_cons_succ]
          refine oneL 19 rfl (by kernel_rfl) (fun K hK => ?_)
          go_simp
          refine hK.out _ _ trivial (fun _ => ?_)
          clear hK K
          try simp only [Act.put, List.setIfInBounds_toArray, List.set_cons_zero, List.set_cons_succ]
          have hW2 := (hst.out (.int .u64 (X ^^^ 2 ^ t : Nat))).1
          rw [show (wv (flipL l k (B % 2 ^ n))).set q (.int .u64 (X ^^^ 2 ^ t : Nat)) = wv (flipL l k (B % 2 ^ (n + 1))) by rw [hsk.out]; unfold wv; rw [List.map_set]] at hW2
          have hB2 := (hBw.setCell (p := ⟨gx, q, none⟩) hgx0 (.int .u64 (X ^^^ 2 ^ t : Nat))).drew
          refine wpAnyH_done (by kernel_rfl) ?_ _
          go_wp2_with fail
          go_roundw
          case rel => exact ⟨n + 1, by omega, by omega, by go_num, hW2, hB2⟩
          case measure => simp [intOf]; omega
      · have hend : k + n = 64 * (N + 1) := by omega
        have hkn' : ¬ (k : Int) + (n : Int) < 64 * ((N : Int) + 1) := by omega
        have hbl : B % 2 ^ n < 4294967296 := Nat.lt_of_le_of_lt (Nat.mod_le _ _) hB
        have hsum := flip_sum l k (B % 2 ^ n) hbl (by omega)
        have hsame := flip_same l k (B % 2 ^ n) (by omega)
        have hiff : moreN 0 (flipL l k (B % 2 ^ n)) = moreN 0 l ↔ flipL l k (B % 2 ^ n) = l := hsum.trans hsame.symm
        have hxw := hFW.out (B % 2 ^ n)
        have hxlen : (flipL l k (B % 2 ^ n)).length = N + 1 := by rw [flip_len]; exact hn
        clear hsum hsame hbl hBU hBS hFL hFW hflip0 hnews
        generalize flipL l k (B % 2 ^ n) = xs at *
        replace hiff := Lib.hid hiff
        have hX0 := Lib.hid (show SL wr (.slice (some ⟨gx, 0, none⟩) (N + 1) cx) xs from by
          have := SL.of_owns (show wr.ownsRow w.heap.size 30 1 (.slice (some ⟨gx, 0, none⟩) (N + 1) cx) xs.length (wv xs) from by rw [hxlen]; exact hown)
          exact this)
        go_wp2_with fail
        refine (words_any _ _ l xs _ (by omega) (by omega) (by omega) (hS.out.keep hBw) hX0.out).mono ?_
        rintro e w3 ⟨rfl, hb3⟩
        have hB3 := hBw.trans (hb3.mono hBw.size)
        have ho3 := owns_keep hown hb3
        have hO := Lib.hid (of_any (.slice (some ⟨g, off, none⟩) (N + 1) cap) l w3 hl (by omega) (hS.out.keep hB3))
        go_wp2_with fail
        refine hO.out.mono ?_
        rintro e w4 ⟨rfl, hb4⟩
        have hB4 := hB3.trans (hb4.mono hB3.size)
        have ho4 := (owns_keep ho3 hb4).alloc (.cells #[.int .u64 (moreN 0 l : Nat)] 30)
        have hB5 := hB4.alloc hB4.size (.cells #[.int .u64 (moreN 0 l : Nat)] 30)
        obtain ⟨v3, w6, hrun, hS3, hSx, hb6⟩ := append_sum (gb := w4.heap.size) (m := moreN 0 l) ho4 hxlen (by simp [go_sem]) hB5.size (by omega) (by omega)
        have hB6 := hB5.trans hb6
        have hm := moreN_lt 0 l
        clear hO hX0 hown ho3 ho4 hb3 hb4 hb6 hB3 hB4 hBw
        have hrun' := Lib.hid hrun
        clear hrun
        have hwm : IntKind.u64.wrap ((moreN 0 l : Nat) : Int) = ((moreN 0 l : Nat) : Int) := by rw [IntKind.wrap_u64]; omega
        go_wp2_with (at_builtin; refine wpList_append_run rfl _ _ 22 rfl _ _ _ rfl rfl hrun'.out ?_)
        have hlx : (xs ++ [moreN 0 l]).length = (N + 1) + 1 := by simp [hxlen]
        obtain ⟨g3, o3, c3, rfl, hg3, hc3, hcl3⟩ := hS3.pos hlx
        have hcl3' := Lib.hid hcl3
        have hWLx : WL (xs ++ [moreN 0 l]) := hxw.append (WL.one (by omega))
        have hlast : (xs ++ [moreN 0 l]).getD (N + 1) 0 = moreN 0 l := by rw [List.getD_eq_getElem?_getD, List.getElem?_append_right (by omega)]; simp [hxlen]
        have htake : (xs ++ [moreN 0 l]).take (N + 1) = xs := by rw [List.take_append_of_le_length (by omega), List.take_of_length_le (by omega)]
        have hM1 := Lib.hid (fun w1 (hb : Below w6.heap.size w6 w1) => of_any (.slice (some ⟨g, off, none⟩) (N + 1) cap) l w1 hl (by omega) (hS.out.keep (hB6.trans (hb.mono hB6.size))))
        have hM2 := Lib.hid (fun w1 (hb : Below w6.heap.size w6 w1) => of_any (.slice (some ⟨gx, 0, none⟩) (N + 1) cx) xs w1 hxw (by omega) (hSx.keep hb))
        clear hcl3 hS3
        by_cases hs : l = xs
        · have hd : decide (l = xs) = true := decide_eq_true hs
          have hsum : moreN 0 xs = moreN 0 l := hiff.out.2 hs.symm
          have hOp := Lib.hid (open_yes (xs ++ [moreN 0 l]) (N + 1) g3 o3 c3 w6 hWLx (by omega) hlx hc3 hg3 hcl3' (by rw [hlast, htake, hsum]))
          rw [hsum] at hM2
          rw [hd]
          have e1 : (((moreN 0 l : Nat) : Int) == ((moreN 0 l : Nat) : Int)) = true := by simp
          clear hiff hsum hlast htake hd hs
          generalize moreN 0 l = m at *
          refine hOp.out.mono ?_
          rintro e w7 ⟨vz, rfl, hSz, hb7⟩
          have hB7 := hB6.trans (hb7.mono hB6.size)
          go_wp2_with fail
          refine (hM1.out _ hb7).mono ?_
          rintro e w8 ⟨rfl, hb8⟩
          have hc8 := hb7.trans (hb8.mono hb7.size)
          have hB8 := hB7.trans (hb8.mono hB7.size)
          go_wp2_with fail
          refine (hM2.out _ hc8).mono ?_
          rintro e w9 ⟨rfl, hb9⟩
          have hB9 := hB8.trans (hb9.mono hB8.size)
          go_wp2_with fail
          go_ret
          exact ⟨ret_b (by first | rfl | (simp; done) | (simp [e1]; done)), hB9⟩
        · have hd : decide (l = xs) = false := decide_eq_false hs
          have hsum : ¬ moreN 0 xs = moreN 0 l := fun h => hs (hiff.out.1 h).symm
          have hOp := Lib.hid (open_no (xs ++ [moreN 0 l]) (N + 1) g3 o3 c3 w6 hWLx (by omega) hlx hc3 hg3 hcl3' (by rw [hlast, htake]; exact fun h => hsum h.symm))
          rw [hd]
          have hm2 := moreN_lt 0 xs
          have e1 : (((moreN 0 l : Nat) : Int) == ((moreN 0 xs : Nat) : Int)) = false := by rw [beq_eq_false_iff_ne]; omega
          clear hiff hsum hlast htake hd hs
          generalize moreN 0 l = m at *
          generalize moreN 0 xs = mx at *
          refine hOp.out.mono ?_
          rintro e w7 ⟨rfl, hb7⟩
          have hB7 := hB6.trans (hb7.mono hB6.size)
          go_wp2_with fail
          refine (hM1.out _ hb7).mono ?_
          rintro e w8 ⟨rfl, hb8⟩
          have hc8 := hb7.trans (hb8.mono hb7.size)
          have hB8 := hB7.trans (hb8.mono hB7.size)
          go_wp2_with fail
          refine (hM2.out _ hc8).mono ?_
          rintro e w9 ⟨rfl, hb9⟩
          have hB9 := hB8.trans (hb9.mono hB8.size)
          go_wp2_with fail
          go_ret
          exact ⟨ret_b (by first | rfl | (simp; done) | (simp [e1]; done)), hB9⟩
    · have h32' : ¬ (n : Int) < 32 := by omega
      have hbl : B % 2 ^ n < 4294967296 := Nat.lt_of_le_of_lt (Nat.mod_le _ _) hB
      have hsum := flip_sum l k (B % 2 ^ n) hbl (by omega)
      have hsame := flip_same l k (B % 2 ^ n) (by omega)
      have hiff : moreN 0 (flipL l k (B % 2 ^ n)) = moreN 0 l ↔ flipL l k (B % 2 ^ n) = l := hsum.trans hsame.symm
      have hxw := hFW.out (B % 2 ^ n)
      have hxlen : (flipL l k (B % 2 ^ n)).length = N + 1 := by rw [flip_len]; exact hn
      clear hsum hsame hbl hBU hBS hFL hFW hflip0 hnews
      generalize flipL l k (B % 2 ^ n) = xs at *
      replace hiff := Lib.hid hiff
      have hX0 := Lib.hid (show SL wr (.slice (some ⟨gx, 0, none⟩) (N + 1) cx) xs from by
        have := SL.of_owns (show wr.ownsRow w.heap.size 30 1 (.slice (some ⟨gx, 0, none⟩) (N + 1) cx) xs.length (wv xs) from by rw [hxlen]; exact hown)
        exact this)
      go_wp2_with fail
      refine (words_any _ _ l xs _ (by omega) (by omega) (by omega) (hS.out.keep hBw) hX0.out).mono ?_
      rintro e w3 ⟨rfl, hb3⟩
      have hB3 := hBw.trans (hb3.mono hBw.size)
      have ho3 := owns_keep hown hb3
      have hO := Lib.hid (of_any (.slice (some ⟨g, off, none⟩) (N + 1) cap) l w3 hl (by omega) (hS.out.keep hB3))
      go_wp2_with fail
      refine hO.out.mono ?_
      rintro e w4 ⟨rfl, hb4⟩
      have hB4 := hB3.trans (hb4.mono hB3.size)
      have ho4 := (owns_keep ho3 hb4).alloc (.cells #[.int .u64 (moreN 0 l : Nat)] 30)
      have hB5 := hB4.alloc hB4.size (.cells #[.int .u64 (moreN 0 l : Nat)] 30)
      obtain ⟨v3, w6, hrun, hS3, hSx, hb6⟩ := append_sum (gb := w4.heap.size) (m := moreN 0 l) ho4 hxlen (by simp [go_sem]) hB5.size (by omega) (by omega)
      have hB6 := hB5.trans hb6
      have hm := moreN_lt 0 l
      clear hO hX0 hown ho3 ho4 hb3 hb4 hb6 hB3 hB4 hBw
      have hrun' := Lib.hid hrun
      clear hrun
      have hwm : IntKind.u64.wrap ((moreN 0 l : Nat) : Int) = ((moreN 0 l : Nat) : Int) := by rw [IntKind.wrap_u64]; omega
      go_wp2_with (at_builtin; refine wpList_append_run rfl _ _ 22 rfl _ _ _ rfl rfl hrun'.out ?_)
      have hlx : (xs ++ [moreN 0 l]).length = (N + 1) + 1 := by simp [hxlen]
      obtain ⟨g3, o3, c3, rfl, hg3, hc3, hcl3⟩ := hS3.pos hlx
      have hcl3' := Lib.hid hcl3
      have hWLx : WL (xs ++ [moreN 0 l]) := hxw.append (WL.one (by omega))
      have hlast : (xs ++ [moreN 0 l]).getD (N + 1) 0 = moreN 0 l := by rw [List.getD_eq_getElem?_getD, List.getElem?_append_right (by omega)]; simp [hxlen]
      have htake : (xs ++ [moreN 0 l]).take (N + 1) = xs := by rw [List.take_append_of_le_length (by omega), List.take_of_length_le (by omega)]
      have hM1 := Lib.hid (fun w1 (hb : Below w6.heap.size w6 w1) => of_any (.slice (some ⟨g, off, none⟩) (N + 1) cap) l w1 hl (by omega) (hS.out.keep (hB6.trans (hb.mono hB6.size))))
      have hM2 := Lib.hid (fun w1 (hb : Below w6.heap.size w6 w1) => of_any (.slice (some ⟨gx, 0, none⟩) (N + 1) cx) xs w1 hxw (by omega) (hSx.keep hb))
      clear hcl3 hS3
      by_cases hs : l = xs
      · have hd : decide (l = xs) = true := decide_eq_true hs
        have hsum : moreN 0 xs = moreN 0 l := hiff.out.2 hs.symm
        have hOp := Lib.hid (open_yes (xs ++ [moreN 0 l]) (N + 1) g3 o3 c3 w6 hWLx (by omega) hlx hc3 hg3 hcl3' (by rw [hlast, htake, hsum]))
        rw [hsum] at hM2
        rw [hd]
        have e1 : (((moreN 0 l : Nat) : Int) == ((moreN 0 l : Nat) : Int)) = true := by simp
        clear hiff hsum hlast htake hd hs
        generalize moreN 0 l = m at *
        refine hOp.out.mono ?_
        rintro e w7 ⟨vz, rfl, hSz, hb7⟩
        have hB7 := hB6.trans (hb7.mono hB6.size)
        go_wp2_with fail
        refine (hM1.out _ hb7).mono ?_
        rintro e w8 ⟨rfl, hb8⟩
        have hc8 := hb7.trans (hb8.mono hb7.size)
        have hB8 := hB7.trans (hb8.mono hB7.size)
        go_wp2_with fail
        refine (hM2.out _ hc8).mono ?_
        rintro e w9 ⟨rfl, hb9⟩
        have hB9 := hB8.trans (hb9.mono hB8.size)
        go_wp2_with fail
        go_ret
        exact ⟨ret_b (by first | rfl | (simp; done) | (simp [e1]; done)), hB9⟩
      · have hd : decide (l = xs) = false := decide_eq_false hs
        have hsum : ¬ moreN 0 xs = moreN 0 l := fun h => hs (hiff.out.1 h).symm
        have hOp := Lib.hid (open_no (xs ++ [moreN 0 l]) (N + 1) g3 o3 c3 w6 hWLx (by omega) hlx hc3 hg3 hcl3' (by rw [hlast, htake]; exact fun h => hsum h.symm))
        rw [hd]
        have hm2 := moreN_lt 0 xs
        have e1 : (((moreN 0 l : Nat) : Int) == ((moreN 0 xs : Nat) : Int)) = false := by rw [beq_eq_false_iff_ne]; omega
        clear hiff hsum hlast htake hd hs
        generalize moreN 0 l = m at *
        generalize moreN 0 xs = mx at *
        refine hOp.out.mono ?_
        rintro e w7 ⟨rfl, hb7⟩
        have hB7 := hB6.trans (hb7.mono hB6.size)
        go_wp2_with fail
        refine (hM1.out _ hb7).mono ?_
        rintro e w8 ⟨rfl, hb8⟩
        have hc8 := hb7.trans (hb8.mono hb7.size)
        have hB8 := hB7.trans (hb8.mono hB7.size)
        go_wp2_with fail
        refine (hM2.out _ hc8).mono ?_
        rintro e w9 ⟨rfl, hb9⟩
        have hB9 := hB8.trans (hb9.mono hB8.size)
        go_wp2_with fail
        go_ret
        exact ⟨ret_b (by first | rfl | (simp; done) | (simp [e1]; done)), hB9⟩
end Go.Proofs.Ythklgmpphfdfoaa
