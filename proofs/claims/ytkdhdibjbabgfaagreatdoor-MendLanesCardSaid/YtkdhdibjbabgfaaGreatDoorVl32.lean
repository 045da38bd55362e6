/-
  Part of the proof of MendLanes.
-/
import Derived.Test.YtkdhdibjbabgfaaGreatDoorVl30
import Derived.Test.YtkdhdibjbabgfaaGreatDoorVl34
import Derived.Test.YtkdhdibjbabgfaaGreatDoorVl4
import Derived.Test.YtkdhdibjbabgfaaGreatDoorVl9
import Derived.Test.YtkdhdibjbabgfaaGreatDoorVl0
set_option maxRecDepth 100000
set_option maxHeartbeats 4000000
set_option linter.unusedVariables false
set_option linter.unusedSimpArgs false
section
namespace Go.Proofs.YtkdhdibjbabgfaaGreatDoor
open Go.RowKit Go.ChangeShapes Go.WideShapes Go.Deep
theorem eC_new (w : World) (x : Nat) (t : TypeId) : CKL (w.alloc (.cells #[.int .i64 (kN x : Nat), .int .i64 (cN x : Nat), .int .i64 (lnN x : Nat), .int .i64 (mN x : Nat), .int .u64 (bN x : Nat)] t)) (.slice (some ⟨w.heap.size, 0, none⟩) 1 1) [x] := by
 refine ⟨_, _, rfl, fun _ => ⟨w.heap.size, 0, rfl, by simp, by simp, fun i hi j hj => ?_⟩⟩
 have hi0 : i = 0 := by simp at hi; omega
 subst hi0
 have h5 : j = 0 ∨ j = 1 ∨ j = 2 ∨ j = 3 ∨ j = 4 := by omega
 rcases h5 with rfl | rfl | rfl | rfl | rfl <;> simp [go_sem, eC]
theorem take_all {l : List Nat} {n : Nat} (h : l.length = n) : l.take n = l := List.take_of_length_le (by omega)
theorem take_snoc {l : List Nat} {k : Nat} (h : k < l.length) : l.take (k + 1) = l.take k ++ [l.getD k 0] := by
 rw [List.take_succ_eq_append_getElem h, List.getD_eq_getElem?_getD, List.getElem?_eq_getElem h]; rfl
theorem snoc_all {l : List Nat} {k n : Nat} (hn : l.length = n) (hk : k < n) (h1 : (l.take k).all okN = true) (h2 : okN (l.getD k 0) = true) : (l.take (k + 1)).all okN = true := by
 rw [take_snoc (by omega), List.all_append, h1]; simp only [List.all_cons, List.all_nil, h2, Bool.and_self]
theorem not_all {l : List Nat} {k n : Nat} (hn : l.length = n) (hk : k < n) (h2 : okN (l.getD k 0) = false) : l.all okN = false := by
 cases h : l.all okN with
 | false => rfl
 | true => rw [all_at h (by omega)] at h2; cases h2
def ChunksP (w : World) (t : List Nat) (e : Ending) (w' : World) : Prop :=
 (t.all okN = true ∧ ∃ v', e = .returned (.tuple #[v', .bool true]) ∧ CKO w' w.heap.size v' t) ∨ (t.all okN = false ∧ e = .returned (.tuple #[.slice none 0 0, .bool false]))
theorem chunks_any (v : Value) (t : List Nat) (w : World) (hw : Lw w) (hv : KL .u64 w v t) (hW : WL t) (hl : t.length ≤ 100000) :
 Calls Tryz.prog 65 #[v] w fun e w' => ChunksP w t e w' ∧ Below w.heap.size w w' := by
 obtain ⟨n, hn⟩ : ∃ n, t.length = n := ⟨_, rfl⟩
 obtain ⟨A, cap, rfl, hC⟩ := hv.form hn
 replace hC := lh hC
 have hWx := lh (fun k (hk : k < n) => show t.getD k 0 < 18446744073709551616 from hW.at k (by omega))
 have hSn := lh (fun k (hk : k < n) => snoc_all hn hk)
 have hNo := lh (fun k (hk : k < n) => not_all hn hk)
 have hTs := lh (fun k (hk : k < n) => take_snoc (l := t) (k := k) (by omega))
 have hTa := lh (take_all hn)
 have hTl := lh (fun k (hk : k ≤ n) => show (t.take k).length = k from by rw [List.length_take]; omega)
 have hn9 : n ≤ 100000 := by omega
 replace hn := lh hn
 have hwh := lh hw
 clear hv hW hl hw
 obtain ⟨i0, hi, hz0, hz1, hz2⟩ := info_parts infoC
 go_enter Tryz.func65, Tryz.ntmps65
 go_wp2_with (at_make; refine wpList_make_own _ rfl _ _ 109 rfl w.heap.size 96 i0 (.agg #[.int .i64 0, .int .i64 0, .int .i64 0, .int .i64 0, .int .u64 0]) 5 Tryz.underlying109 hi hz0 hz1 .i64 .i64 _ n rfl rfl rfl (by rw [hz2]; omega) (by unfold maxLen; omega) (Nat.le_refl _) ?_; intro w1 hown0 hgr; have hB0 : Below w.heap.size w w1 := (Below.refl _ _).grown hgr (Nat.le_refl _) (by simp); have hO0 : CKO w1 w.heap.size (.slice (some ⟨w.heap.size, 0, none⟩) 0 n) [] := hown0; clear hown0 hgr)
 go_loopw [14, 4] (fun i l wr => ∃ (j : Nat) (J : List Nat), j ≤ n ∧ i = .int .i64 j ∧ Hid (J = t.take j ∧ J.all okN = true) ∧ CKO wr w.heap.size l J ∧ Below w.heap.size w wr) (fun i _ _ => n + 1 - (intOf i).toNat)
 case atStart => exact ⟨0, [], Nat.zero_le _, rfl, ⟨by simp, by simp⟩, hO0, hB0⟩
 case round =>
  obtain ⟨j, J, hj, rfl, hJ, hown, hB⟩ := hrel
  by_cases hlt : j < n
  ·obtain ⟨g, off, rfl, hcap, hg, c0⟩ := hC.out wr j hB hlt
   have hlt' : (j : Int) < (n : Int) := by omega
   have hx := hWx.out j hlt
   have hJl : J.length = j := by rw [hJ.out.1]; exact hTl.out j hj
   have hsn := hSn.out j hlt
   have hno := hNo.out j hlt
   have hts := hTs.out j hlt
   rw [← hJ.out.1] at hts hsn
   generalize t.getD j 0 = x at *
   replace hts := lh hts
   have hlw := hwh.out.keep hB
   cases hok : okN x with
   | true =>
     have hsn2 := lh (hsn hJ.out.2 hok)
     have hD := dcY x wr hlw hx hok
     clear hsn hno hok hlw
     go_wp2_with fail
     refine hD.mono ?_
     rintro e w1 ⟨rfl, hb⟩
     have hB1 := hB.trans (hb.mono hB.size)
     have ho1 := hown.keep hb
     -- the chunk's own block, and the literal's
     have hA1 := bZ w1 (.cells #[.int .i64 (kN x : Nat), .int .i64 (cN x : Nat), .int .i64 (lnN x : Nat), .int .i64 (mN x : Nat), .int .u64 (bN x : Nat)] 96)
     generalize hw2 : w1.alloc (.cells #[.int .i64 (kN x : Nat), .int .i64 (cN x : Nat), .int .i64 (lnN x : Nat), .int .i64 (mN x : Nat), .int .u64 (bN x : Nat)] 96) = w2 at *
     obtain ⟨v', w4, hrun, ho4, hg4, _, _⟩ := appE cT ((ho1.keep hA1).alloc (.cells #[.int .i64 (kN x : Nat), .int .i64 (cN x : Nat), .int .i64 (lnN x : Nat), .int .i64 (mN x : Nat), .int .u64 (bN x : Nat)] (96 : Nat))) (eC_new w2 x (96 : Nat)) (by have := hB1.size; have := hA1.size; simp; omega) (by omega) (by simp)
     have hs2 : w2.heap.size = w1.heap.size + 1 := by rw [← hw2]; simp
     have hc5 := C5.new w1 (kN x : Nat) (cN x : Nat) (lnN x : Nat) (mN x : Nat) (bN x : Nat) 96
     rw [hw2] at hc5
     have hB4 : Below w.heap.size w w4 := ((hB1.trans (hA1.mono hB1.size)).alloc (by have := hB1.size; omega) _).trans (grown_below hg4 (by have := hB1.size; simp; omega) (fun k hk => (ho1.lt k hk).1))
     clear hA1 hg4 hD hb
     subst hw2
     simp only [World.size_alloc] at hrun
     go_wp2_with (at_builtin; refine wpList_append_run rfl _ _ 109 rfl _ _ _ rfl rfl hrun ?_)
     go_roundw
     case rel => exact ⟨j + 1, J ++ [x], by omega, by go_num, ⟨hts.out.symm, by rw [← hts.out]; exact hsn2.out⟩, ho4, hB4⟩
     case measure => first | (simp [intOf]; done) | (simp [intOf]; omega)
   | false =>
     have hno2 := lh (hno hok)
     have hD := dcN x wr hlw hx hok
     clear hsn hno hok hlw
     go_wp2_with fail
     refine hD.mono ?_
     rintro e w1 ⟨rfl, hb⟩
     have hB1 := hB.trans (hb.mono hB.size)
     go_wp2_with fail
     go_ret2
     exact ⟨.inr ⟨hno2.out, rfl⟩, hB1.alloc hB1.size _⟩
  ·obtain rfl : j = n := by omega
   have hJt := hTa.out
   rw [← hJ.out.1] at hJt
   subst hJt
   go_wp2_with fail
   go_ret2
   exact ⟨.inl ⟨hJ.out.2, _, rfl, hown⟩, hB⟩
theorem refChunks_any (v : Value) (t : List Nat) (w : World) (hw : Lw w) (hv : KL .u64 w v t) (hW : WL t) (hl : t.length ≤ 100000) :
 Calls Tryz.prog 72 #[v] w fun e w' => ChunksP w t e w' ∧ Below w.heap.size w w' := by
 obtain ⟨n, hn⟩ : ∃ n, t.length = n := ⟨_, rfl⟩
 obtain ⟨A, cap, rfl, hC⟩ := hv.form hn
 replace hC := lh hC
 have hWx := lh (fun k (hk : k < n) => show t.getD k 0 < 18446744073709551616 from hW.at k (by omega))
 have hSn := lh (fun k (hk : k < n) => snoc_all hn hk)
 have hNo := lh (fun k (hk : k < n) => not_all hn hk)
 have hTs := lh (fun k (hk : k < n) => take_snoc (l := t) (k := k) (by omega))
 have hTa := lh (take_all hn)
 have hTl := lh (fun k (hk : k ≤ n) => show (t.take k).length = k from by rw [List.length_take]; omega)
 have hn9 : n ≤ 100000 := by omega
 replace hn := lh hn
 have hwh := lh hw
 clear hv hW hl hw
 go_enter Tryz.func72, Tryz.ntmps72
 go_wp2_with fail
 go_loopw [5, 4] (fun i l wr => ∃ (j : Nat) (J : List Nat), j ≤ n ∧ i = .int .i64 j ∧ Hid (J = t.take j ∧ J.all okN = true) ∧ CKO wr w.heap.size l J ∧ Below w.heap.size w wr) (fun i _ _ => n + 1 - (intOf i).toNat)
 case atStart => exact ⟨0, [], Nat.zero_le _, rfl, ⟨by simp, by simp⟩, OwnE.nil _ _ _ _ _, Below.refl _ _⟩
 case round =>
  obtain ⟨j, J, hj, rfl, hJ, hown, hB⟩ := hrel
  by_cases hlt : j < n
  ·obtain ⟨g, off, rfl, hcap, hg, c0⟩ := hC.out wr j hB hlt
   have hlt' : (j : Int) < (n : Int) := by omega
   have hx := hWx.out j hlt
   have hJl : J.length = j := by rw [hJ.out.1]; exact hTl.out j hj
   have hsn := hSn.out j hlt
   have hno := hNo.out j hlt
   have hts := hTs.out j hlt
   rw [← hJ.out.1] at hts hsn
   generalize t.getD j 0 = x at *
   replace hts := lh hts
   have hlw := hwh.out.keep hB
   cases hok : okN x with
   | true =>
     have hsn2 := lh (hsn hJ.out.2 hok)
     have hD := rdcY x wr hlw hx hok
     clear hsn hno hok hlw
     go_wp2_with fail
     refine hD.mono ?_
     rintro e w1 ⟨rfl, hb⟩
     have hB1 := hB.trans (hb.mono hB.size)
     have ho1 := hown.keep hb
     -- the chunk's own block, and the literal's
     have hA1 := bZ w1 (.cells #[.int .i64 (kN x : Nat), .int .i64 (cN x : Nat), .int .i64 (lnN x : Nat), .int .i64 (mN x : Nat), .int .u64 (bN x : Nat)] 96)
     generalize hw2 : w1.alloc (.cells #[.int .i64 (kN x : Nat), .int .i64 (cN x : Nat), .int .i64 (lnN x : Nat), .int .i64 (mN x : Nat), .int .u64 (bN x : Nat)] 96) = w2 at *
     obtain ⟨v', w4, hrun, ho4, hg4, _, _⟩ := appE cT ((ho1.keep hA1).alloc (.cells #[.int .i64 (kN x : Nat), .int .i64 (cN x : Nat), .int .i64 (lnN x : Nat), .int .i64 (mN x : Nat), .int .u64 (bN x : Nat)] (96 : Nat))) (eC_new w2 x (96 : Nat)) (by have := hB1.size; have := hA1.size; simp; omega) (by omega) (by simp)
     have hs2 : w2.heap.size = w1.heap.size + 1 := by rw [← hw2]; simp
     have hc5 := C5.new w1 (kN x : Nat) (cN x : Nat) (lnN x : Nat) (mN x : Nat) (bN x : Nat) 96
     rw [hw2] at hc5
     have hB4 : Below w.heap.size w w4 := ((hB1.trans (hA1.mono hB1.size)).alloc (by have := hB1.size; omega) _).trans (grown_below hg4 (by have := hB1.size; simp; omega) (fun k hk => (ho1.lt k hk).1))
     clear hA1 hg4 hD hb
     subst hw2
     simp only [World.size_alloc] at hrun
     go_wp2_with (at_builtin; refine wpList_append_run rfl _ _ 109 rfl _ _ _ rfl rfl hrun ?_)
     go_roundw
     case rel => exact ⟨j + 1, J ++ [x], by omega, by go_num, ⟨hts.out.symm, by rw [← hts.out]; exact hsn2.out⟩, ho4, hB4⟩
     case measure => first | (simp [intOf]; done) | (simp [intOf]; omega)
   | false =>
     have hno2 := lh (hno hok)
     have hD := rdcN x wr hlw hx hok
     clear hsn hno hok hlw
     go_wp2_with fail
     refine hD.mono ?_
     rintro e w1 ⟨rfl, hb⟩
     have hB1 := hB.trans (hb.mono hB.size)
     go_wp2_with fail
     go_ret2
     exact ⟨.inr ⟨hno2.out, rfl⟩, hB1.alloc hB1.size _⟩
  ·obtain rfl : j = n := by omega
   have hJt := hTa.out
   rw [← hJ.out.1] at hJt
   subst hJt
   go_wp2_with fail
   go_ret2
   exact ⟨.inl ⟨hJ.out.2, _, rfl, hown⟩, hB⟩
end Go.Proofs.YtkdhdibjbabgfaaGreatDoor
end
section
namespace Go.Proofs.YtkdhdibjbabgfaaGreatDoor
open Go.RowKit Go.ChangeShapes Go.WideShapes Go.Deep
theorem refDec_bad (v : Value) (ws : List Nat) (m : Int) (w : World) (hv : KL .u64 w v ws) (hlen : ws.length ≤ 900) (hm1 : -9223372036854775808 ≤ m) (hm2 : m ≤ 9223372036854775807) (h : m < 0 ∨ (0 ≤ m ∧ 19 < m) ∨ (0 ≤ m ∧ m ≤ 19 ∧ (ws.length : Int) < 2 * m + 1)) :
 Calls Tryz.prog 75 #[v, .int .i64 m] w fun e w' => e = .returned (.tuple #[.slice none 0 0, .bool false]) ∧ Below w.heap.size w w' := by
 obtain ⟨A, cap, rfl, _⟩ := hv.form rfl
 clear hv
 rcases h with h | ⟨h, h2⟩ | ⟨h, h2, h3⟩
 all_goals
  go_enter Tryz.func75, Tryz.ntmps75
  go_wp2_with fail
  go_ret2
  exact ⟨rfl, Below.refl _ _⟩
theorem refDec_t (v : Value) (ws : List Nat) (k : Nat) (w : World) (hv : KL .u64 w v ws) (hW : WL ws) (hlen : ws.length ≤ 900) (hk : k ≤ 19) (hkl : 2 * k + 1 ≤ ws.length) (hd : decB ws k = true) :
 Calls Tryz.prog 75 #[v, .int .i64 (k : Nat)] w fun e w' => ∃ v', e = .returned (.tuple #[v', .bool true]) ∧ OwnE 53 3 opE w' w.heap.size v' (opsN ws k) ∧ Below w.heap.size w w' := by
 obtain ⟨hsum, hfi⟩ := decB_all hd
 have hFi := lh hfi
 clear hfi hd
 obtain ⟨n, hn⟩ : ∃ n, ws.length = n := ⟨_, rfl⟩
 have hvk := hv
 obtain ⟨A, cap, rfl, hC⟩ := hv.form hn
 obtain ⟨g, off, rfl, hcap, hg, _⟩ := hC w 0 (Below.refl _ _) (by omega)
 have hOf := lh (fun w1 (hb : Below w.heap.size w w1) => refOf_any (.slice (some ⟨g, off, none⟩) (2 * k) cap) (ws.take (2 * k)) w1 (fun x hx => hW x (List.mem_of_mem_take hx)) (by rw [List.length_take]; omega) ((hvk.take (2 * k) (by omega)).keep hb).sl)
 have hWa := lh (fun i (hi : i < n) => hW.at i (by omega))
 have hSu := lh (fun i => opsN_succ ws i)
 have hLn := lh (fun i => opsN_len ws i)
 have hmn := moreN_lt 0 (ws.take (2 * k))
 have q1 : (k : Int) ≤ 19 := by omega
 have q2 : 2 * (k : Int) + 1 ≤ (n : Int) := by omega
 have q3 := lh (fun w => run_slice_to (P := Tryz.prog) (ty := 23) Tryz.underlying23 (info_parts infoU64).choose_spec.1 (some ⟨g, off, none⟩) n cap (2 * k) (by omega) w)
 have q4 : ((2 * k : Nat) : Int) = 2 * (k : Int) := by omega
 rw [q4] at q3
 have hkn : 2 * k + 1 ≤ n := by omega
 replace hn := lh hn
 replace hC := lh hC
 generalize moreN 0 (ws.take (2 * k)) = ms at *
 clear hv hvk q4 hW hlen hkl
 go_enter Tryz.func75, Tryz.ntmps75
 go_wp2_with fail
 go_loopw [7, 6] (fun i l wr => ∃ (j : Nat) (J : List Ox), j ≤ k ∧ i = .int .i64 j ∧ Hid (J = opsN ws j) ∧ OwnE 53 3 opE wr w.heap.size l J ∧ Below w.heap.size w wr) (fun i _ _ => k + 1 - (intOf i).toNat)
 case atStart => exact ⟨0, [], Nat.zero_le _, rfl, rfl, OwnE.nil _ _ _ _ _, Below.refl _ _⟩
 case round =>
  obtain ⟨j, J, hj, rfl, hJ, hown, hB⟩ := hrel
  by_cases hlt : j < k
  ·have hfb := hFi.out j hlt
   obtain ⟨g', o', he, _, _, d0⟩ := hC.out wr (2 * j) hB (by omega)
   simp only [Option.some.injEq, Addr.mk.injEq, and_true] at he
   obtain ⟨rfl, rfl⟩ := he
   obtain ⟨g', o', he, _, _, d1⟩ := hC.out wr (2 * j + 1) hB (by omega)
   simp only [Option.some.injEq, Addr.mk.injEq, and_true] at he
   obtain ⟨rfl, rfl⟩ := he
   have hlt' : (j : Int) < (k : Int) := by omega
   have hx := hWa.out (2 * j) (by omega)
   have hJl : J.length = j := by rw [hJ.out]; exact hLn.out j
   have hsu := hSu.out j
   rw [← hJ.out] at hsu
   have hfd : fineB ws j = (!wrongB (opAt ws j) && decide (ws.getD (2 * j) 0 < 4194304)) := rfl
   have hoe : opAt ws j = (((ws.getD (2 * j) 0 % 4 : Nat) : Int), ((ws.getD (2 * j) 0 / 4 % 1048576 : Nat) : Int), ws.getD (2 * j + 1) 0) := rfl
   have hb1' : ws.getD (2 * j) 0 % 4 < 4 := Nat.mod_lt _ (by decide)
   have hb2' : ws.getD (2 * j) 0 / 4 % 1048576 < 1048576 := Nat.mod_lt _ (by decide)
   have hkk : ((ws.getD (2 * j) 0 : Nat) : Int) % 4 = ((ws.getD (2 * j) 0 % 4 : Nat) : Int) := by omega
   have haa : ((ws.getD (2 * j) 0 : Nat) : Int) / 4 % 1048576 = ((ws.getD (2 * j) 0 / 4 % 1048576 : Nat) : Int) := by omega
   rw [hfd] at hfb
   generalize opAt ws j = o at *
   generalize ws.getD (2 * j) 0 = x at *
   generalize ws.getD (2 * j + 1) 0 = y at *
   generalize x % 4 = kk at *
   generalize x / 4 % 1048576 = aa at *
   have hWr := fun w => can_any_rd o w
   unfold opV at hWr
   rw [hoe] at hWr
   simp only [] at hWr
   rw [← hoe] at hWr
   have hsu2 := lh hsu
   have hoe2 := lh hoe
   simp only [Bool.and_eq_true, Bool.not_eq_true', decide_eq_true_eq] at hfb
   have hxl : decide (4194304 ≤ (x : Int)) = false := by rw [decide_eq_false_iff_not]; omega
   rw [hfb.1] at hWr
   simp only [Bool.not_false] at hWr
   clear hsu hoe hfb hfd
   have i1 : IntKind.i64.wrap (2 * (j : Int)) = 2 * (j : Int) := by rw [IntKind.wrap_i64]; omega
   have i2 : IntKind.i64.wrap (2 * (j : Int) + 1) = 2 * (j : Int) + 1 := by rw [IntKind.wrap_i64]; omega
   have i3 : (2 * (j : Int) + 1).toNat = 2 * j + 1 := by omega
   have i4 : 0 ≤ 2 * (j : Int) + 1 := by omega
   have i5 : 2 * (j : Int) + 1 < (n : Int) := by omega
   have i6 : IntKind.i64.wrap ((kk : Nat) : Int) = (kk : Int) := by rw [IntKind.wrap_i64]; omega
   have i7 : IntKind.i64.wrap ((aa : Nat) : Int) = (aa : Int) := by rw [IntKind.wrap_i64]; omega
   replace hWr := lh hWr
   go_wp2_with fail
   clear hkk haa
   obtain ⟨W, hW⟩ : ∃ W : World, W = (wr.alloc (.cells #[.int .i64 (kk : Int), .int .i64 (aa : Int), .int .u64 (y : Nat)] (53 : Nat))) := ⟨_, rfl⟩
   try rw [← hW]
   have hbA : Below wr.heap.size wr W := by rw [hW]; exact (bZ _ _)
   have hkW : C3 W wr.heap.size (.int .i64 (kk : Int)) (.int .i64 (aa : Int)) (.int .u64 (y : Nat)) := by rw [hW]; exact C3.new _ _ _ _ _
   clear hW d0 d1
   have hownW := hown.keep hbA
   have hBW := hB.trans (hbA.mono hB.size)
   clear hown hB hbA
   refine (hWr.out _).mono ?_
   rintro e W2 ⟨rfl, hb2⟩
   replace hkW := hkW.keep hb2
   replace hownW := hownW.keep hb2
   replace hBW := hBW.trans (hb2.mono hBW.size)
   clear hb2 i1 i2 i3 i4 i5 i6 i7 hb1' hb2' hx
   obtain ⟨b0, b1, b2⟩ := id hkW
   have hone : EL 3 opE (W2.alloc (.cells #[.int .i64 (kk : Int), .int .i64 (aa : Int), .int .u64 (y : Nat)] (53 : Nat))) (.slice (some ⟨W2.heap.size, 0, none⟩) 1 1) [o] := (OwnE.lit 53 opE_len W2 [o] #[.int .i64 (kk : Int), .int .i64 (aa : Int), .int .u64 (y : Nat)] (by rw [hoe2.out]; rfl) (by simp)).el opE_len
   obtain ⟨v', w4, hrun, ho, hg4, _, _⟩ := appE opT (hownW.alloc (.cells #[.int .i64 (kk : Int), .int .i64 (aa : Int), .int .u64 (y : Nat)] (53 : Nat))) hone (by have := hBW.size; simp; omega) (by omega) (by simp)
   have hB4 : Below w.heap.size w w4 := (hBW.alloc hBW.size _).grown hg4 (by have := hBW.size; simp; omega) (fun i hi => (hownW.lt _ hi).1)
   rw [hsu2.out.symm] at ho
   obtain ⟨J2, hJ2⟩ : ∃ J2, J2 = opsN ws (j + 1) := ⟨_, rfl⟩
   rw [← hJ2] at ho
   replace hJ2 := lh hJ2
   clear hone hg4 hownW hBW
   go_wp2_with (at_builtin; refine wpList_append_run rfl _ _ 35 rfl _ _ _ rfl rfl hrun ?_)
   clear hrun
   go_wp2_with fail
   go_roundw
   case rel => exact ⟨j + 1, _, by omega, by go_num, hJ2, ho, hB4⟩
   case measure => simp [intOf]; omega
  ·have hjk : j = k := by omega
   obtain rfl := hjk
   have hxs := hWa.out (2 * j) (by omega)
   obtain ⟨g', o', he, _, _, dK⟩ := hC.out wr (2 * j) hB (by omega)
   simp only [Option.some.injEq, Addr.mk.injEq, and_true] at he
   obtain ⟨rfl, rfl⟩ := he
   have hBd := hB.drew
   have q5 := q3.out
   have i1 : IntKind.i64.wrap (2 * (j : Int)) = 2 * (j : Int) := by rw [IntKind.wrap_i64]; omega
   have i3 : (2 * (j : Int)).toNat = 2 * j := by omega
   have i4 : 0 ≤ 2 * (j : Int) := by omega
   have i5 : 2 * (j : Int) < (n : Int) := by omega
   have i6 : IntKind.u64.wrap (ms : Int) = (ms : Int) := by rw [IntKind.wrap_u64]; omega
   generalize ws.getD (2 * j) 0 = xs at *
   rw [← hsum] at i6 hOf
   have f1 : ((xs : Int) != (xs : Int)) = false := by simp
   have f2 : ((xs : Int) != IntKind.u64.wrap (xs : Int)) = false := by rw [i6]; simp
   clear hsum
   go_wp2_with fail
   refine wp_region_held_drew (S := (fun w' => w'.cell? ⟨g, off + 2 * j, none⟩ = some (.int .u64 (xs : Nat)) ∧ Below w.heap.size w w')) (by kernel_rfl) ?_ (fun hHeld => ?_)
   ·(try dsimp only)
    (first | assumption | (exact ⟨dK, hBd⟩) | ((try go_split_ands); exact ⟨cellK (by assumption) hb, Below.trans (by assumption) (hb.mono (Below.size (by assumption)))⟩))
   refine takeV 0 ?_
   refine takeV 1 ?_
   refine takeV 2 ?_
   refine takeV 3 ?_
   refine takeV 4 ?_
   refine takeV 5 ?_
   refine takeV 6 ?_
   refine takeV 7 ?_
   refine takeV 8 ?_
   refine oneL 9 rfl (by kernel_rfl) (fun K hK => ?_)
   go_simp
   (obtain ⟨_, hq⟩ := id hHeld; (with_reducible refine (hOf.out _ hq).mono ?_); rintro e w8 ⟨rfl, hb⟩)
   refine hK.out _ _ ?_ (fun hHeld2 => ?_)
   ·(try dsimp only)
    (first | assumption | (exact ⟨dK, hBd⟩) | ((try go_split_ands); exact ⟨cellK (by assumption) hb, Below.trans (by assumption) (hb.mono (Below.size (by assumption)))⟩))
   clear hK K hHeld
   have hHeld := hHeld2
   clear hHeld2
   try simp only [Act.put,sA,sB,sC]
   refine takeV 10 ?_
   refine takeV 11 ?_
   refine wpAnyH_done (by kernel_rfl) ?_ _
   obtain ⟨_, hB9⟩ := id hHeld
   have hown9 := hown.drew.keep hb
   rw [hJ.out] at hown9
   clear hHeld hown hJ
   go_wp2_with fail
   go_ret2
   exact ⟨_, rfl, hown9, hB9⟩
theorem refDec_f (v : Value) (ws : List Nat) (k : Nat) (w : World) (hv : KL .u64 w v ws) (hW : WL ws) (hlen : ws.length ≤ 900) (hk : k ≤ 19) (hkl : 2 * k + 1 ≤ ws.length) (hd : decB ws k = false) :
 Calls Tryz.prog 75 #[v, .int .i64 (k : Nat)] w fun e w' => e = .returned (.tuple #[.slice none 0 0, .bool false]) ∧ Below w.heap.size w w' := by
 have hX := lh (fun (h : ∀ i, i < k → fineB ws i = true) (hs : ws.getD (2 * k) 0 = moreN 0 (ws.take (2 * k))) => show False from by have := decB_of hs h; rw [hd] at this; cases this)
 clear hd
 obtain ⟨n, hn⟩ : ∃ n, ws.length = n := ⟨_, rfl⟩
 have hvk := hv
 obtain ⟨A, cap, rfl, hC⟩ := hv.form hn
 obtain ⟨g, off, rfl, hcap, hg, _⟩ := hC w 0 (Below.refl _ _) (by omega)
 have hOf := lh (fun w1 (hb : Below w.heap.size w w1) => refOf_any (.slice (some ⟨g, off, none⟩) (2 * k) cap) (ws.take (2 * k)) w1 (fun x hx => hW x (List.mem_of_mem_take hx)) (by rw [List.length_take]; omega) ((hvk.take (2 * k) (by omega)).keep hb).sl)
 have hWa := lh (fun i (hi : i < n) => hW.at i (by omega))
 have hSu := lh (fun i => opsN_succ ws i)
 have hLn := lh (fun i => opsN_len ws i)
 have hmn := moreN_lt 0 (ws.take (2 * k))
 have q1 : (k : Int) ≤ 19 := by omega
 have q2 : 2 * (k : Int) + 1 ≤ (n : Int) := by omega
 have q3 := lh (fun w => run_slice_to (P := Tryz.prog) (ty := 23) Tryz.underlying23 (info_parts infoU64).choose_spec.1 (some ⟨g, off, none⟩) n cap (2 * k) (by omega) w)
 have q4 : ((2 * k : Nat) : Int) = 2 * (k : Int) := by omega
 rw [q4] at q3
 have hkn : 2 * k + 1 ≤ n := by omega
 replace hn := lh hn
 replace hC := lh hC
 generalize moreN 0 (ws.take (2 * k)) = ms at *
 clear hv hvk q4 hW hlen hkl
 go_enter Tryz.func75, Tryz.ntmps75
 go_wp2_with fail
 go_loopw [7, 6] (fun i l wr => ∃ (j : Nat) (J : List Ox), j ≤ k ∧ i = .int .i64 j ∧ Hid (J = opsN ws j) ∧ Hid (∀ i, i < j → fineB ws i = true) ∧ OwnE 53 3 opE wr w.heap.size l J ∧ Below w.heap.size w wr) (fun i _ _ => k + 1 - (intOf i).toNat)
 case atStart => exact ⟨0, [], Nat.zero_le _, rfl, rfl, (fun i hi => by omega), OwnE.nil _ _ _ _ _, Below.refl _ _⟩
 case round =>
  obtain ⟨j, J, hj, rfl, hJ, hF, hown, hB⟩ := hrel
  by_cases hlt : j < k
  ·have hCo := lh (fun (h : fineB ws j = true) i (hi : i < j + 1) => show fineB ws i = true from by
    by_cases e : i = j
    ·subst e; exact h
    ·exact hF.out i (by omega))
   cases hfb : fineB ws j with
   | true =>
     have hF2 := lh (hCo.out hfb)
     clear hCo
     obtain ⟨g', o', he, _, _, d0⟩ := hC.out wr (2 * j) hB (by omega)
     simp only [Option.some.injEq, Addr.mk.injEq, and_true] at he
     obtain ⟨rfl, rfl⟩ := he
     obtain ⟨g', o', he, _, _, d1⟩ := hC.out wr (2 * j + 1) hB (by omega)
     simp only [Option.some.injEq, Addr.mk.injEq, and_true] at he
     obtain ⟨rfl, rfl⟩ := he
     have hlt' : (j : Int) < (k : Int) := by omega
     have hx := hWa.out (2 * j) (by omega)
     have hJl : J.length = j := by rw [hJ.out]; exact hLn.out j
     have hsu := hSu.out j
     rw [← hJ.out] at hsu
     have hfd : fineB ws j = (!wrongB (opAt ws j) && decide (ws.getD (2 * j) 0 < 4194304)) := rfl
     have hoe : opAt ws j = (((ws.getD (2 * j) 0 % 4 : Nat) : Int), ((ws.getD (2 * j) 0 / 4 % 1048576 : Nat) : Int), ws.getD (2 * j + 1) 0) := rfl
     have hb1' : ws.getD (2 * j) 0 % 4 < 4 := Nat.mod_lt _ (by decide)
     have hb2' : ws.getD (2 * j) 0 / 4 % 1048576 < 1048576 := Nat.mod_lt _ (by decide)
     have hkk : ((ws.getD (2 * j) 0 : Nat) : Int) % 4 = ((ws.getD (2 * j) 0 % 4 : Nat) : Int) := by omega
     have haa : ((ws.getD (2 * j) 0 : Nat) : Int) / 4 % 1048576 = ((ws.getD (2 * j) 0 / 4 % 1048576 : Nat) : Int) := by omega
     rw [hfd] at hfb
     generalize opAt ws j = o at *
     generalize ws.getD (2 * j) 0 = x at *
     generalize ws.getD (2 * j + 1) 0 = y at *
     generalize x % 4 = kk at *
     generalize x / 4 % 1048576 = aa at *
     have hWr := fun w => can_any_rd o w
     unfold opV at hWr
     rw [hoe] at hWr
     simp only [] at hWr
     rw [← hoe] at hWr
     have hsu2 := lh hsu
     have hoe2 := lh hoe
     simp only [Bool.and_eq_true, Bool.not_eq_true', decide_eq_true_eq] at hfb
     have hxl : decide (4194304 ≤ (x : Int)) = false := by rw [decide_eq_false_iff_not]; omega
     rw [hfb.1] at hWr
     simp only [Bool.not_false] at hWr
     clear hsu hoe hfb hfd
     have i1 : IntKind.i64.wrap (2 * (j : Int)) = 2 * (j : Int) := by rw [IntKind.wrap_i64]; omega
     have i2 : IntKind.i64.wrap (2 * (j : Int) + 1) = 2 * (j : Int) + 1 := by rw [IntKind.wrap_i64]; omega
     have i3 : (2 * (j : Int) + 1).toNat = 2 * j + 1 := by omega
     have i4 : 0 ≤ 2 * (j : Int) + 1 := by omega
     have i5 : 2 * (j : Int) + 1 < (n : Int) := by omega
     have i6 : IntKind.i64.wrap ((kk : Nat) : Int) = (kk : Int) := by rw [IntKind.wrap_i64]; omega
     have i7 : IntKind.i64.wrap ((aa : Nat) : Int) = (aa : Int) := by rw [IntKind.wrap_i64]; omega
     replace hWr := lh hWr
     go_wp2_with fail
     clear hkk haa
     obtain ⟨W, hW⟩ : ∃ W : World, W = (wr.alloc (.cells #[.int .i64 (kk : Int), .int .i64 (aa : Int), .int .u64 (y : Nat)] (53 : Nat))) := ⟨_, rfl⟩
     try rw [← hW]
     have hbA : Below wr.heap.size wr W := by rw [hW]; exact (bZ _ _)
     have hkW : C3 W wr.heap.size (.int .i64 (kk : Int)) (.int .i64 (aa : Int)) (.int .u64 (y : Nat)) := by rw [hW]; exact C3.new _ _ _ _ _
     clear hW d0 d1
     have hownW := hown.keep hbA
     have hBW := hB.trans (hbA.mono hB.size)
     clear hown hB hbA
     refine (hWr.out _).mono ?_
     rintro e W2 ⟨rfl, hb2⟩
     replace hkW := hkW.keep hb2
     replace hownW := hownW.keep hb2
     replace hBW := hBW.trans (hb2.mono hBW.size)
     clear hb2 i1 i2 i3 i4 i5 i6 i7 hb1' hb2' hx
     obtain ⟨b0, b1, b2⟩ := id hkW
     have hone : EL 3 opE (W2.alloc (.cells #[.int .i64 (kk : Int), .int .i64 (aa : Int), .int .u64 (y : Nat)] (53 : Nat))) (.slice (some ⟨W2.heap.size, 0, none⟩) 1 1) [o] := (OwnE.lit 53 opE_len W2 [o] #[.int .i64 (kk : Int), .int .i64 (aa : Int), .int .u64 (y : Nat)] (by rw [hoe2.out]; rfl) (by simp)).el opE_len
     obtain ⟨v', w4, hrun, ho, hg4, _, _⟩ := appE opT (hownW.alloc (.cells #[.int .i64 (kk : Int), .int .i64 (aa : Int), .int .u64 (y : Nat)] (53 : Nat))) hone (by have := hBW.size; simp; omega) (by omega) (by simp)
     have hB4 : Below w.heap.size w w4 := (hBW.alloc hBW.size _).grown hg4 (by have := hBW.size; simp; omega) (fun i hi => (hownW.lt _ hi).1)
     rw [hsu2.out.symm] at ho
     obtain ⟨J2, hJ2⟩ : ∃ J2, J2 = opsN ws (j + 1) := ⟨_, rfl⟩
     rw [← hJ2] at ho
     replace hJ2 := lh hJ2
     clear hone hg4 hownW hBW
     go_wp2_with (at_builtin; refine wpList_append_run rfl _ _ 35 rfl _ _ _ rfl rfl hrun ?_)
     clear hrun
     go_wp2_with fail
     go_roundw
     case rel => exact ⟨j + 1, _, by omega, by go_num, hJ2, hF2, ho, hB4⟩
     case measure => simp [intOf]; omega
   | false =>
     clear hCo
     cases hw0 : wrongB (opAt ws j) with
     | true =>
       obtain ⟨g', o', he, _, _, d0⟩ := hC.out wr (2 * j) hB (by omega)
       simp only [Option.some.injEq, Addr.mk.injEq, and_true] at he
       obtain ⟨rfl, rfl⟩ := he
       obtain ⟨g', o', he, _, _, d1⟩ := hC.out wr (2 * j + 1) hB (by omega)
       simp only [Option.some.injEq, Addr.mk.injEq, and_true] at he
       obtain ⟨rfl, rfl⟩ := he
       have hlt' : (j : Int) < (k : Int) := by omega
       have hx := hWa.out (2 * j) (by omega)
       have hJl : J.length = j := by rw [hJ.out]; exact hLn.out j
       have hsu := hSu.out j
       rw [← hJ.out] at hsu
       have hfd : fineB ws j = (!wrongB (opAt ws j) && decide (ws.getD (2 * j) 0 < 4194304)) := rfl
       have hoe : opAt ws j = (((ws.getD (2 * j) 0 % 4 : Nat) : Int), ((ws.getD (2 * j) 0 / 4 % 1048576 : Nat) : Int), ws.getD (2 * j + 1) 0) := rfl
       have hb1' : ws.getD (2 * j) 0 % 4 < 4 := Nat.mod_lt _ (by decide)
       have hb2' : ws.getD (2 * j) 0 / 4 % 1048576 < 1048576 := Nat.mod_lt _ (by decide)
       have hkk : ((ws.getD (2 * j) 0 : Nat) : Int) % 4 = ((ws.getD (2 * j) 0 % 4 : Nat) : Int) := by omega
       have haa : ((ws.getD (2 * j) 0 : Nat) : Int) / 4 % 1048576 = ((ws.getD (2 * j) 0 / 4 % 1048576 : Nat) : Int) := by omega
       rw [hfd] at hfb
       generalize opAt ws j = o at *
       generalize ws.getD (2 * j) 0 = x at *
       generalize ws.getD (2 * j + 1) 0 = y at *
       generalize x % 4 = kk at *
       generalize x / 4 % 1048576 = aa at *
       have hWr := fun w => can_any_rd o w
       unfold opV at hWr
       rw [hoe] at hWr
       simp only [] at hWr
       rw [← hoe] at hWr
       have hsu2 := lh hsu
       have hoe2 := lh hoe
       rw [hw0] at hWr
       simp only [Bool.not_true] at hWr
       clear hw0
       clear hsu hoe hfb hfd
       have i1 : IntKind.i64.wrap (2 * (j : Int)) = 2 * (j : Int) := by rw [IntKind.wrap_i64]; omega
       have i2 : IntKind.i64.wrap (2 * (j : Int) + 1) = 2 * (j : Int) + 1 := by rw [IntKind.wrap_i64]; omega
       have i3 : (2 * (j : Int) + 1).toNat = 2 * j + 1 := by omega
       have i4 : 0 ≤ 2 * (j : Int) + 1 := by omega
       have i5 : 2 * (j : Int) + 1 < (n : Int) := by omega
       have i6 : IntKind.i64.wrap ((kk : Nat) : Int) = (kk : Int) := by rw [IntKind.wrap_i64]; omega
       have i7 : IntKind.i64.wrap ((aa : Nat) : Int) = (aa : Int) := by rw [IntKind.wrap_i64]; omega
       replace hWr := lh hWr
       go_wp2_with fail
       clear hkk haa
       obtain ⟨W, hW⟩ : ∃ W : World, W = (wr.alloc (.cells #[.int .i64 (kk : Int), .int .i64 (aa : Int), .int .u64 (y : Nat)] (53 : Nat))) := ⟨_, rfl⟩
       try rw [← hW]
       have hbA : Below wr.heap.size wr W := by rw [hW]; exact (bZ _ _)
       have hkW : C3 W wr.heap.size (.int .i64 (kk : Int)) (.int .i64 (aa : Int)) (.int .u64 (y : Nat)) := by rw [hW]; exact C3.new _ _ _ _ _
       clear hW d0 d1
       have hownW := hown.keep hbA
       have hBW := hB.trans (hbA.mono hB.size)
       clear hown hB hbA
       refine (hWr.out _).mono ?_
       rintro e W2 ⟨rfl, hb2⟩
       replace hkW := hkW.keep hb2
       replace hownW := hownW.keep hb2
       replace hBW := hBW.trans (hb2.mono hBW.size)
       clear hb2 i1 i2 i3 i4 i5 i6 i7 hb1' hb2' hx
       obtain ⟨b0, b1, b2⟩ := id hkW
       clear hsu2 hoe2
       go_wp2_with fail
       go_ret2
       exact ⟨rfl, hBW⟩
     | false =>
       obtain ⟨g', o', he, _, _, d0⟩ := hC.out wr (2 * j) hB (by omega)
       simp only [Option.some.injEq, Addr.mk.injEq, and_true] at he
       obtain ⟨rfl, rfl⟩ := he
       obtain ⟨g', o', he, _, _, d1⟩ := hC.out wr (2 * j + 1) hB (by omega)
       simp only [Option.some.injEq, Addr.mk.injEq, and_true] at he
       obtain ⟨rfl, rfl⟩ := he
       have hlt' : (j : Int) < (k : Int) := by omega
       have hx := hWa.out (2 * j) (by omega)
       have hJl : J.length = j := by rw [hJ.out]; exact hLn.out j
       have hsu := hSu.out j
       rw [← hJ.out] at hsu
       have hfd : fineB ws j = (!wrongB (opAt ws j) && decide (ws.getD (2 * j) 0 < 4194304)) := rfl
       have hoe : opAt ws j = (((ws.getD (2 * j) 0 % 4 : Nat) : Int), ((ws.getD (2 * j) 0 / 4 % 1048576 : Nat) : Int), ws.getD (2 * j + 1) 0) := rfl
       have hb1' : ws.getD (2 * j) 0 % 4 < 4 := Nat.mod_lt _ (by decide)
       have hb2' : ws.getD (2 * j) 0 / 4 % 1048576 < 1048576 := Nat.mod_lt _ (by decide)
       have hkk : ((ws.getD (2 * j) 0 : Nat) : Int) % 4 = ((ws.getD (2 * j) 0 % 4 : Nat) : Int) := by omega
       have haa : ((ws.getD (2 * j) 0 : Nat) : Int) / 4 % 1048576 = ((ws.getD (2 * j) 0 / 4 % 1048576 : Nat) : Int) := by omega
       rw [hfd] at hfb
       generalize opAt ws j = o at *
       generalize ws.getD (2 * j) 0 = x at *
       generalize ws.getD (2 * j + 1) 0 = y at *
       generalize x % 4 = kk at *
       generalize x / 4 % 1048576 = aa at *
       have hWr := fun w => can_any_rd o w
       unfold opV at hWr
       rw [hoe] at hWr
       simp only [] at hWr
       rw [← hoe] at hWr
       have hsu2 := lh hsu
       have hoe2 := lh hoe
       rw [hw0] at hWr hfb
       simp only [Bool.not_false, Bool.true_and, decide_eq_false_iff_not] at hfb hWr
       have hxl : 4194304 ≤ (x : Int) := by omega
       clear hw0
       clear hsu hoe hfb hfd
       have i1 : IntKind.i64.wrap (2 * (j : Int)) = 2 * (j : Int) := by rw [IntKind.wrap_i64]; omega
       have i2 : IntKind.i64.wrap (2 * (j : Int) + 1) = 2 * (j : Int) + 1 := by rw [IntKind.wrap_i64]; omega
       have i3 : (2 * (j : Int) + 1).toNat = 2 * j + 1 := by omega
       have i4 : 0 ≤ 2 * (j : Int) + 1 := by omega
       have i5 : 2 * (j : Int) + 1 < (n : Int) := by omega
       have i6 : IntKind.i64.wrap ((kk : Nat) : Int) = (kk : Int) := by rw [IntKind.wrap_i64]; omega
       have i7 : IntKind.i64.wrap ((aa : Nat) : Int) = (aa : Int) := by rw [IntKind.wrap_i64]; omega
       replace hWr := lh hWr
       go_wp2_with fail
       clear hkk haa
       obtain ⟨W, hW⟩ : ∃ W : World, W = (wr.alloc (.cells #[.int .i64 (kk : Int), .int .i64 (aa : Int), .int .u64 (y : Nat)] (53 : Nat))) := ⟨_, rfl⟩
       try rw [← hW]
       have hbA : Below wr.heap.size wr W := by rw [hW]; exact (bZ _ _)
       have hkW : C3 W wr.heap.size (.int .i64 (kk : Int)) (.int .i64 (aa : Int)) (.int .u64 (y : Nat)) := by rw [hW]; exact C3.new _ _ _ _ _
       clear hW d0 d1
       have hownW := hown.keep hbA
       have hBW := hB.trans (hbA.mono hB.size)
       clear hown hB hbA
       refine (hWr.out _).mono ?_
       rintro e W2 ⟨rfl, hb2⟩
       replace hkW := hkW.keep hb2
       replace hownW := hownW.keep hb2
       replace hBW := hBW.trans (hb2.mono hBW.size)
       clear hb2 i1 i2 i3 i4 i5 i6 i7 hb1' hb2' hx
       obtain ⟨b0, b1, b2⟩ := id hkW
       clear hsu2 hoe2
       go_wp2_with fail
       go_ret2
       exact ⟨rfl, hBW⟩
  ·have hjk : j = k := by omega
   obtain rfl := hjk
   have hxs := hWa.out (2 * j) (by omega)
   obtain ⟨g', o', he, _, _, dK⟩ := hC.out wr (2 * j) hB (by omega)
   simp only [Option.some.injEq, Addr.mk.injEq, and_true] at he
   obtain ⟨rfl, rfl⟩ := he
   have hBd := hB.drew
   have q5 := q3.out
   have i1 : IntKind.i64.wrap (2 * (j : Int)) = 2 * (j : Int) := by rw [IntKind.wrap_i64]; omega
   have i3 : (2 * (j : Int)).toNat = 2 * j := by omega
   have i4 : 0 ≤ 2 * (j : Int) := by omega
   have i5 : 2 * (j : Int) < (n : Int) := by omega
   have i6 : IntKind.u64.wrap (ms : Int) = (ms : Int) := by rw [IntKind.wrap_u64]; omega
   generalize ws.getD (2 * j) 0 = xs at *
   have hne := hX.out (fun i hi => hF.out i (by omega))
   have f1 : ((xs : Int) != (ms : Int)) = true := by
    rw [bne_iff_ne]
    intro h
    exact hne (by omega)
   have f2 : ((xs : Int) != IntKind.u64.wrap (ms : Int)) = true := by rw [i6]; exact f1
   clear hne hX
   go_wp2_with fail
   refine wp_region_held_drew (S := (fun w' => w'.cell? ⟨g, off + 2 * j, none⟩ = some (.int .u64 (xs : Nat)) ∧ Below w.heap.size w w')) (by kernel_rfl) ?_ (fun hHeld => ?_)
   ·(try dsimp only)
    (first | assumption | (exact ⟨dK, hBd⟩) | ((try go_split_ands); exact ⟨cellK (by assumption) hb, Below.trans (by assumption) (hb.mono (Below.size (by assumption)))⟩))
   refine takeV 0 ?_
   refine takeV 1 ?_
   refine takeV 2 ?_
   refine takeV 3 ?_
   refine takeV 4 ?_
   refine takeV 5 ?_
   refine takeV 6 ?_
   refine takeV 7 ?_
   refine takeV 8 ?_
   refine oneL 9 rfl (by kernel_rfl) (fun K hK => ?_)
   go_simp
   (obtain ⟨_, hq⟩ := id hHeld; (with_reducible refine (hOf.out _ hq).mono ?_); rintro e w8 ⟨rfl, hb⟩)
   refine hK.out _ _ ?_ (fun hHeld2 => ?_)
   ·(try dsimp only)
    (first | assumption | (exact ⟨dK, hBd⟩) | ((try go_split_ands); exact ⟨cellK (by assumption) hb, Below.trans (by assumption) (hb.mono (Below.size (by assumption)))⟩))
   clear hK K hHeld
   have hHeld := hHeld2
   clear hHeld2
   try simp only [Act.put,sA,sB,sC]
   refine takeV 10 ?_
   refine takeV 11 ?_
   refine wpAnyH_done (by kernel_rfl) ?_ _
   obtain ⟨_, hB9⟩ := id hHeld
   clear hHeld
   go_wp2_with fail
   go_ret2
   exact ⟨rfl, hB9⟩
end Go.Proofs.YtkdhdibjbabgfaaGreatDoor
end
