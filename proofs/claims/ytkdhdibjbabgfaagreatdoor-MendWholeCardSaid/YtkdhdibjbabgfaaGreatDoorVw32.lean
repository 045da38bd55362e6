/-
  Part of the proof of MendWhole.
-/
import Derived.Test.YtkdhdibjbabgfaaGreatDoorVw2
import Derived.Test.YtkdhdibjbabgfaaGreatDoorVw21
import Derived.Test.YtkdhdibjbabgfaaGreatDoorVw3
import Derived.Test.YtkdhdibjbabgfaaGreatDoorVw34
import Derived.Test.YtkdhdibjbabgfaaGreatDoorVw4
import Derived.Test.YtkdhdibjbabgfaaGreatDoorVw5
import Derived.Test.YtkdhdibjbabgfaaGreatDoorVw7
import Derived.Test.YtkdhdibjbabgfaaGreatDoorVw9
import Derived.Deep.RegionHeld3
import Derived.Laws.CopyOwn
import Derived.Lib.AppendZerosOnto
import Derived.Lib.SliceRun
import Derived.OwnWalkIn
import Derived.Test.YtkdhdibjbabgfaaGreatDoorVw0
set_option maxRecDepth 100000
set_option maxHeartbeats 8000000
set_option linter.unusedVariables false
set_option linter.unusedSimpArgs false
section
namespace Go.Proofs.YtkdhdibjbabgfaaGreatDoor
open Go.RowKit Go.ChangeShapes Go.WideShapes Go.Deep
def eC (x : Nat) : List Value := [.int .i64 (kN x : Nat), .int .i64 (cN x : Nat), .int .i64 (lnN x : Nat), .int .i64 (mN x : Nat), .int .u64 (bN x : Nat)]
theorem eC_len (x : Nat) : (eC x).length = 5 := rfl
theorem infoC : (Tryz.prog.info? 96).map (fun i => (i.zero, i.size, i.bytes)) = some (some (.agg #[.int .i64 0, .int .i64 0, .int .i64 0, .int .i64 0, .int .u64 0]), 5, 40) := by kernel_rfl
theorem cT : ElT Tryz.prog 109 96 5 40 eC :=
 ⟨Tryz.underlying109, by obtain ⟨i0, h1, h2, h3, h4⟩ := info_parts infoC; exact ⟨i0, _, h1, h2, h3, h4, rfl⟩, eC_len, fun x u hu => by simp only [eC, List.mem_cons, List.not_mem_nil, or_false] at hu; rcases hu with rfl | rfl | rfl | rfl | rfl <;> rfl, by decide, by decide⟩
def eB (b : Bl) : List Value := [.int .i64 (b.1 : Nat), .int .i64 (b.2.1 : Nat), .int .i64 (b.2.2 : Nat)]
abbrev CKL (w : World) (v : Value) (l : List Nat) : Prop := EL 5 eC w v l
abbrev CKO (w : World) (base : Nat) (v : Value) (l : List Nat) : Prop := OwnE 96 5 eC w base v l
theorem gN_ti (x : Nat) : getI (x : Int) 0 3 = (kN x : Nat) ∧ getI (x : Int) 3 2 = (cN x : Nat) ∧ getI (x : Int) 5 6 = (lnN x : Nat) ∧ getI (x : Int) 11 13 = (mN x : Nat) ∧ getI (x : Int) 24 8 = (bN x : Nat) := by
 obtain ⟨h0, h1, h2, h3, h4⟩ := gets (x : Int) (by omega)
 rw [h0, h1, h2, h3, h4]
 clear h0 h1 h2 h3 h4
 unfold kN cN lnN mN bN
 refine ⟨?_, ?_, ?_, ?_, ?_⟩ <;> simp only [Int.natCast_emod, Int.natCast_ediv] <;> rfl
theorem rightN_B (x : Nat) : RightN x ↔ (x < 4294967296 ∧ RightP (kN x : Nat) (cN x : Nat) (lnN x : Nat) (mN x : Nat) (bN x : Nat)) := by
 unfold RightN RightP
 generalize kN x = k
 generalize cN x = c
 generalize lnN x = l
 generalize mN x = m
 generalize bN x = b
 constructor
 ·rintro ⟨h0, h | h | h | h⟩
  ·exact ⟨h0, .inl (by omega)⟩
  ·exact ⟨h0, .inr (.inl (by omega))⟩
  ·exact ⟨h0, .inr (.inr (.inl (by omega)))⟩
  ·exact ⟨h0, .inr (.inr (.inr (by omega)))⟩
 ·rintro ⟨h0, h | h | h | h⟩
  ·exact ⟨h0, .inl (by omega)⟩
  ·exact ⟨h0, .inr (.inl (by omega))⟩
  ·exact ⟨h0, .inr (.inr (.inl (by omega)))⟩
  ·exact ⟨h0, .inr (.inr (.inr (by omega)))⟩
theorem okN_dec (x : Nat) : decB_ti (x : Int) = okN x := by
 obtain ⟨h0, h1, h2, h3, h4⟩ := gN_ti x
 unfold decB_ti rightB_ti okN
 rw [h0, h1, h2, h3, h4, Bool.eq_iff_iff, Bool.and_eq_true, decide_eq_true_iff, decide_eq_true_iff, decide_eq_true_iff, rightN_B]
 constructor
 ·rintro ⟨a, b⟩; exact ⟨by omega, a⟩
 ·rintro ⟨a, b⟩; exact ⟨b, by omega⟩
theorem dcY (x : Nat) (w : World) (hw : Lw w) (h1 : x < 18446744073709551616) (h : okN x = true) :
 Calls Tryz.prog 86 #[.int .u64 (x : Nat)] w fun e w' => e = .returned (.tuple #[.agg #[.int .i64 (kN x : Nat), .int .i64 (cN x : Nat), .int .i64 (lnN x : Nat), .int .i64 (mN x : Nat), .int .u64 (bN x : Nat)], .bool true]) ∧ Below w.heap.size w w' := by
 have := dec_yes_ti (x : Int) w hw (by omega) (by omega) ((okN_dec x).trans h)
 obtain ⟨h0, h1, h2, h3, h4⟩ := gN_ti x
 rwa [h0, h1, h2, h3, h4] at this
theorem dcN (x : Nat) (w : World) (hw : Lw w) (h1 : x < 18446744073709551616) (h : okN x = false) :
 Calls Tryz.prog 86 #[.int .u64 (x : Nat)] w fun e w' => e = .returned (.tuple #[.agg #[.int .i64 0, .int .i64 0, .int .i64 0, .int .i64 0, .int .u64 0], .bool false]) ∧ Below w.heap.size w w' :=
 dec_no_ti (x : Int) w hw (by omega) (by omega) ((okN_dec x).trans h)
theorem rdcY (x : Nat) (w : World) (hw : Lw w) (h1 : x < 18446744073709551616) (h : okN x = true) :
 Calls Tryz.prog 54 #[.int .u64 (x : Nat)] w fun e w' => e = .returned (.tuple #[.agg #[.int .i64 (kN x : Nat), .int .i64 (cN x : Nat), .int .i64 (lnN x : Nat), .int .i64 (mN x : Nat), .int .u64 (bN x : Nat)], .bool true]) ∧ Below w.heap.size w w' := by
 have := refDecode_any_ti (x : Int) w hw (by omega) (by omega)
 obtain ⟨h0, h1, h2, h3, h4⟩ := gN_ti x
 unfold decV at this
 rw [okN_dec, h, if_pos rfl] at this
 rwa [h0, h1, h2, h3, h4] at this
theorem rdcN (x : Nat) (w : World) (hw : Lw w) (h1 : x < 18446744073709551616) (h : okN x = false) :
 Calls Tryz.prog 54 #[.int .u64 (x : Nat)] w fun e w' => e = .returned (.tuple #[.agg #[.int .i64 0, .int .i64 0, .int .i64 0, .int .i64 0, .int .u64 0], .bool false]) ∧ Below w.heap.size w w' := by
 have := refDecode_any_ti (x : Int) w hw (by omega) (by omega)
 unfold decV at this
 rw [okN_dec, h, if_neg (by simp)] at this
 exact this
theorem CKL.form {w : World} {v : Value} {l : List Nat} {n : Nat} (h : CKL w v l) (hn : l.length = n) : ∃ A cap, v = .slice A n cap ∧
 ∀ w1 i, Below w.heap.size w w1 → i < n → ∃ g off, A = some ⟨g, off, none⟩ ∧ n ≤ cap ∧ g < w.heap.size ∧ g < w1.heap.size ∧ w1.cell? ⟨g, off + i * 5, none⟩ = some (.int .i64 (kN (l.getD i 0) : Nat)) ∧ w1.cell? ⟨g, off + i * 5 + 1, none⟩ = some (.int .i64 (cN (l.getD i 0) : Nat)) ∧ w1.cell? ⟨g, off + i * 5 + 2, none⟩ = some (.int .i64 (lnN (l.getD i 0) : Nat)) ∧ w1.cell? ⟨g, off + i * 5 + 3, none⟩ = some (.int .i64 (mN (l.getD i 0) : Nat)) ∧ w1.cell? ⟨g, off + i * 5 + 4, none⟩ = some (.int .u64 (bN (l.getD i 0) : Nat)) := by
 obtain ⟨A, cap, hv, h⟩ := EL.form h hn
 refine ⟨A, cap, hv, fun w1 i hb hi => ?_⟩
 obtain ⟨g, off, hA, h1, h2, h3, hc⟩ := h w1 i hb hi
 exact ⟨g, off, hA, h1, h2, h3, hc 0 (by omega), hc 1 (by omega), hc 2 (by omega), hc 3 (by omega), hc 4 (by omega)⟩
def HL (l : List Nat) : Prop := ∀ x ∈ l, x < 65536
end Go.Proofs.YtkdhdibjbabgfaaGreatDoor
end
section
namespace Go.Proofs.YtkdhdibjbabgfaaGreatDoor
open Go.RowKit Go.ChangeShapes Go.WideShapes Go.Deep
theorem refEnc_arg (v : Value) (l : List Ox) (w : World) (hv : OPL w v l) (ho : OVs l) (hl19 : l.length ≤ 19) (hr : rightB_rd l = false) :
 Calls Tryz.prog 32 #[v] w fun e w' => e = .returned (.tuple #[.slice none 0 0, .int .i64 1]) ∧ Below w.heap.size w w' := by
 have hX := lh (fun (h : ∀ j, j < l.length → wrongB (l.getD j default) = false) => show False from by have := rightB_all hl19 h; rw [hr] at this; cases this)
 clear hr
 obtain ⟨n, hn⟩ : ∃ n, l.length = n := ⟨_, rfl⟩
 obtain ⟨A, cap, rfl, hC⟩ := hv.form hn
 have hS := lh (fun k (hk : k < n) => show encW_rd (l.take (k + 1)) = encW_rd (l.take k) ++ [wN (l.getD k default), (l.getD k default).2.2] from encW_take l k (by omega))
 have hE := lh (show encW_rd (l.take n) = encW_rd l from by rw [List.take_of_length_le (by omega)])
 have hZ := lh (show encW_rd (l.take 0) = [] from by simp [encW_rd])
 have hLn := lh (fun k (hk : k ≤ n) => show (encW_rd (l.take k)).length = 2 * k from by rw [encW_len, List.length_take]; omega)
 have hV := lh (fun k (hk : k < n) => ho.at k (by omega))
 replace hC := lh hC
 have hn9 : n ≤ 19 := by omega
 have h' : (n : Int) ≤ 19 := by omega
 replace hn := lh hn
 clear hv ho hl19
 go_enter Tryz.func32, Tryz.ntmps32
 go_wp2_with fail
 go_loopw [5, 4] (fun i wd wr => ∃ (k : Nat) (J : List Nat), k ≤ n ∧ i = .int .i64 k ∧ Hid (J = encW_rd (l.take k)) ∧ Hid (∀ j, j < k → wrongB (l.getD j default) = false) ∧ OwnU wr w.heap.size wd J ∧ Below w.heap.size w wr) (fun i _ _ => n + 1 - (intOf i).toNat)
 case atStart => exact ⟨0, [], Nat.zero_le _, rfl, lh hZ.out.symm, (fun j hj => by omega), World.ownsRow_nil _ _ _ _, Below.refl _ _⟩
 case round =>
  obtain ⟨k, J, hk, rfl, hJ, hF, hown, hB⟩ := hrel
  by_cases hlt : k < n
  ·obtain ⟨g, off, rfl, hcap, hgw, hg, c0, c1, c2⟩ := hC.out wr k hB hlt
   have hlt' : (k : Int) < (n : Int) := by omega
   have hs1 := hS.out k hlt
   have hJl : J.length = 2 * k := by rw [hJ.out]; exact hLn.out k hk
   have hov := hV.out k hlt
   rw [← hJ.out] at hs1
   cases hw1 : wrongB (l.getD k default) with
   | true =>
     generalize l.getD k default = o at *
     have hCa := fun w => can_any_rd o w
     rw [hw1] at hCa
     simp only [Bool.not_true] at hCa
     obtain ⟨x, a, y⟩ := o
     unfold opV at hCa
     simp only [] at c0 c1 c2 hCa
     replace hCa := lh hCa
     clear hs1 hw1 hov
     go_wp2_with fail
     refine (hCa.out _).mono ?_
     rintro e w2 ⟨rfl, hb⟩
     have hB2 := hB.trans (hb.mono hB.size)
     go_wp2_with fail
     go_ret2
     exact ⟨rfl, hB2⟩
   | false =>
     have hF2 := lh (fun j (hj : j < k + 1) => show wrongB (l.getD j default) = false from by
      by_cases e : j = k
      ·subst e; exact hw1
      ·exact hF.out j (by omega))
     generalize l.getD k default = o at *
     have hCa := fun w => can_any_rd o w
     rw [hw1] at hCa
     simp only [Bool.not_false] at hCa
     obtain ⟨p1, p2, p3, p4⟩ := wrongB_f hw1
     have hWd := wN_eq hw1
     unfold wordOp at hWd
     generalize wN o = wd at *
     obtain ⟨x, a, y⟩ := o
     unfold opV at hCa
     simp only [] at c0 c1 c2 hov hs1 hCa p1 p2 p3 p4 hWd
     replace hCa := lh hCa
     replace hs1 := lh hs1
     have fa : IntKind.u64.wrap a = a := by rw [IntKind.wrap_u64]; omega
     have fk : IntKind.u64.wrap x = x := by rw [IntKind.wrap_u64]; omega
     have fm : IntKind.u64.wrap (4 * a) = 4 * a := by rw [IntKind.wrap_u64]; omega
     have fs : IntKind.u64.wrap (4 * a + x) = (wd : Int) := by rw [IntKind.wrap_u64, ← hWd]; omega
     replace hWd := lh hWd
     clear hw1
     go_wp2_with fail
     refine (hCa.out _).mono ?_
     rintro e W ⟨rfl, hbC⟩
     have b0 := cellK c0 hbC
     have b1 := cellK c1 hbC
     have b2 := cellK c2 hbC
     have hownW := hown.keep hbC
     have hBW := hB.trans (hbC.mono hB.size)
     clear hown hB hbC
     go_wp2_with fail
     refine wp_region_tail (S := (fun w' => w'.cell? ⟨g, off + k * 3, none⟩ = some (.int .i64 x) ∧ w'.cell? ⟨g, off + k * 3 + 1, none⟩ = some (.int .i64 a) ∧ w'.cell? ⟨g, off + k * 3 + 2, none⟩ = some (.int .u64 (y : Nat)) ∧ Below W.heap.size W w')) (n := 21) (by kernel_rfl) ?_ (fun hHeld hInv => ?_) (by decide)
     ·(try dsimp only)
      (first | assumption | (exact ⟨b0, b1, b2, (Below.refl _ _).drew⟩) | ((try go_split_ands); exact ⟨cellK (by assumption) hb, cellK (by assumption) hb, cellK (by assumption) hb, Below.trans (by assumption) (hb.mono (Below.size (by assumption)))⟩))
     refine takeVS 0 hInv ?_; clear hInv; intro hInv
     refine takeVS 1 hInv ?_; clear hInv; intro hInv
     refine takeVS 2 hInv ?_; clear hInv; intro hInv
     refine takeVS 3 hInv ?_; clear hInv; intro hInv
     refine takeVS 4 hInv ?_; clear hInv; intro hInv
     refine takeVS 5 hInv ?_; clear hInv; intro hInv
     refine takeVS 6 hInv ?_; clear hInv; intro hInv
     refine takeVS 7 hInv ?_; clear hInv; intro hInv
     refine takeVS 8 hInv ?_; clear hInv; intro hInv
     refine takeVS 9 hInv ?_; clear hInv; intro hInv
     refine takeVS 10 hInv ?_; clear hInv; intro hInv
     refine takeVS 11 hInv ?_; clear hInv; intro hInv
     refine takeVS 12 hInv ?_; clear hInv; intro hInv
     refine takeVS 13 hInv ?_; clear hInv; intro hInv
     refine takeVS 14 hInv ?_; clear hInv; intro hInv
     refine takeVS 15 hInv ?_; clear hInv; intro hInv
     refine takeVS 16 hInv ?_; clear hInv; intro hInv
     refine takeVS 17 hInv ?_; clear hInv; intro hInv
     refine takeVS 18 hInv ?_; clear hInv; intro hInv
     refine takeVS 19 hInv ?_; clear hInv; intro hInv
     refine oneS 20 hInv (by decide) rfl (by kernel_rfl) (fun K hK => ?_)
     go_simp
     have hb := bZ W.drew (.cells #[.int .u64 (wd : Nat), .int .u64 (y : Nat)] (25 : Nat))
     refine hK.out _ _ ?_ (fun hHeld2 hInv2 => ?_)
     ·(try dsimp only)
      (first | assumption | (exact ⟨b0, b1, b2, (Below.refl _ _).drew⟩) | ((try go_split_ands); exact ⟨cellK (by assumption) hb, cellK (by assumption) hb, cellK (by assumption) hb, Below.trans (by assumption) (hb.mono (Below.size (by assumption)))⟩))
     clear hK K hHeld hInv
     have hHeld := hHeld2
     have hInv := hInv2
     clear hHeld2 hInv2
     try simp only [Act.put,sA,sB,sC] at hInv ⊢
     refine lastS 21 rfl (by decide) (by kernel_rfl) (fun K hK => ?_)
     obtain ⟨_, _, _, hbL⟩ := id hHeld
     have hB8 := hBW.trans (hbL.mono hBW.size)
     obtain ⟨v', w4, hrun, ho, hb4⟩ := appW (hownW.keep hbL) (KL.two W.drew wd y (25 : Nat)) hB8.size (by omega) (by simp)
     rw [hs1.out.symm] at ho
     obtain ⟨J2, hJ2⟩ : ∃ J2, J2 = encW_rd (l.take (k + 1)) := ⟨_, rfl⟩
     rw [← hJ2] at ho
     replace hJ2 := lh hJ2
     have hBN := hB8.trans hb4
     clear hHeld hb4 hbL hs1 hownW hBW
     rw [if_pos (by rfl)]
     refine wp_append_run _ _ _ _ rfl _ _ _ rfl rfl hrun ?_
     refine hK.out _ _ ?_
     clear hK K
     try simp only [Act.put,sA,sB,sC]
     refine lastS 22 rfl (by decide) (by kernel_rfl) (fun K hK => ?_)
     go_simp
     refine hK.out _ _ ?_
     clear hK K
     try simp only [Act.put,sA,sB,sC]
     refine wpAnyS_done (by kernel_rfl) ?_ _
     clear hInv hrun hB8
     go_wp2_with fail
     go_roundw
     case rel => exact ⟨k + 1, _, by omega, by go_num, hJ2, hF2, ho, hBN⟩
     case measure => simp [intOf]; omega
  ·have hkn : k = n := by omega
   obtain rfl := hkn
   exact absurd (hX.out (fun j hj => hF.out j (by have := hn.out; omega))) id
end Go.Proofs.YtkdhdibjbabgfaaGreatDoor
end
section
namespace Go.Proofs.YtkdhdibjbabgfaaGreatDoor
open Go.RowKit Go.ChangeShapes Go.WideShapes Go.Deep
theorem refDecode_any (gn : Nat) (v : Value) (ws : List Nat) (w : World) (hgn : gn < 18446744073709551616) (hW : WL ws) (hlen : ws.length ≤ 800) (hv : KL .u64 w v ws) :
 Calls Tryz.prog 74 #[.int .u64 (gn : Nat), v] w fun e w' => ∃ v', e = .returned (.tuple #[v', .bool (decL gn ws).isSome]) ∧ EN w' v' ((decL gn ws).getD []) ∧ Below w.heap.size w w' := by
 obtain ⟨n, hn⟩ : ∃ n, ws.length = n := ⟨_, rfl⟩
 obtain ⟨A, cap, rfl, hC⟩ := hv.form hn
 obtain ⟨i0, hi, hz0, hz1, hz2⟩ := info_parts infoU64
 have hM0 : evs gn ws = (([] : List Ex).map px).map some ++ evs gn (ws.drop 0) := rfl
 have hkv := lh hv
 have hn8 : n ≤ 800 := by omega
 replace hM0 := lh hM0
 replace hC := lh hC
 replace hn := lh hn
 replace hW := lh hW
 clear hlen hv
 go_enter Tryz.func74, Tryz.ntmps74
 go_wp2_with fail
 go_loopw [6, 7] (fun vo i wr => ∃ (k : Nat) (xs : List Ex) (Ao : Option Addr) (mo co : Nat), k ≤ n ∧ i = .int .i64 k ∧ vo = .slice Ao mo co ∧ mo = xs.length ∧ xs.length ≤ k ∧ Hid (evs gn ws = (xs.map px).map some ++ evs gn (ws.drop k)) ∧ OD w.heap.size xs (.slice Ao mo co) wr ∧ Below w.heap.size w wr) (fun _ i _ => n + 1 - (intOf i).toNat)
 case atStart => exact ⟨0, [], none, 0, 0, Nat.zero_le _, rfl, rfl, rfl, Nat.zero_le _, hM0, ⟨OwnE.nil _ _ _ _ _, fun x hx => by simp at hx⟩, Below.refl _ _⟩
 case round =>
  obtain ⟨k, xs, Ao, mo, co, hk, rfl, rfl, hmo, hxk, hM, hD, hB⟩ := hrel
  clear hM0
  replace hmo := lh hmo
  by_cases hlt : k < n
  ·obtain ⟨g, off, rfl, hcap, hg, c0⟩ := hC.out wr k hB hlt
   have hlt' : (k : Int) < (n : Int) := by omega
   obtain ⟨rs, hrs⟩ : ∃ rs, ws.drop k = rs := ⟨_, rfl⟩
   have hrl : rs.length = n - k := by rw [← hrs, List.length_drop, hn.out]
   have hr0 : ws.getD k 0 = rs.getD 0 0 := by rw [← hrs, List.getD_eq_getElem?_getD, List.getD_eq_getElem?_getD, List.getElem?_drop]; simp
   have hWr : WL rs := fun y hy => hW.out y (by rw [← hrs] at hy; exact List.mem_of_mem_drop hy)
   rw [hr0] at c0
   rw [hrs] at hM
   have hCx := lh (fun (w' : World) (hb : Below wr.heap.size wr w') => show w'.cell? ⟨g, off + k, none⟩ = some (.int .u64 (rs.getD 0 0 : Nat)) from cellK c0 hb)
   have hx := hWr.at 0 (by omega)
   have hat : atN rs < 1048576 := Nat.mod_lt _ (by decide)
   have hma : manyN rs < 65536 := Nat.mod_lt _ (by decide)
   have f1 : ((rs.getD 0 0 : Nat) : Int) / 1048576 % 65536 = (manyN rs : Int) := by unfold manyN; omega
   have f1' : (((rs.getD 0 0 : Nat) : Int).tdiv 1048576).tmod 65536 = (manyN rs : Int) := by
    rw [Int.tdiv_eq_ediv_of_nonneg (by omega), Int.tmod_eq_emod_of_nonneg (by omega)]; exact f1
   have f2 : ((rs.getD 0 0 : Nat) : Int) % 1048576 = (atN rs : Int) := by unfold atN; omega
   have f2' : ((rs.getD 0 0 : Nat) : Int).tmod 1048576 = (atN rs : Int) := by
    rw [Int.tmod_eq_emod_of_nonneg (by omega)]; exact f2
   have f3 : IntKind.i64.wrap (manyN rs : Int) = (manyN rs : Int) := by rw [IntKind.wrap_i64]; omega
   have f4 : IntKind.i64.wrap (atN rs : Int) = (atN rs : Int) := by rw [IntKind.wrap_i64]; omega
   have hq1 := lh (fun (h : tkB gn rs = false) => decL_none hM.out (by omega) h)
   by_cases hfit : manyN rs + 2 ≤ rs.length
   ·have hq2 := lh (fun h => tkB_enc (gn := gn) hfit h)
    have hadv := lh (fun (h : tkB gn rs = true) => evs_t (by omega) h)
    have hpe := lh (show peN rs = (((atN rs : Nat) : Int), (rs.drop 1).take (manyN rs)) from rfl)
    have hos : ((rs.drop 1).take (manyN rs)).length = manyN rs := by rw [List.length_take, List.length_drop]; omega
    have hWo : WL ((rs.drop 1).take (manyN rs)) := fun y hy => hWr y (List.mem_of_mem_drop (List.mem_of_mem_take hy))
    have hmm : manyN rs ≤ 1000000 := by omega
    have hKu := (fun (w' : World) (hb : Below wr.heap.size wr w') => show KL .u64 w' (.slice (if cap = k + 1 then some ⟨g, off, none⟩ else (some (⟨g, off, none⟩ : Addr)).map (·.add ((k + 1) * 1))) (k + 1 + manyN rs - (k + 1)) (cap - (k + 1))) ((rs.drop 1).take (manyN rs)) from by
     have q := (hkv.out.keep (hB.trans (hb.mono hB.size))).mid (k + 1) (manyN rs) (by omega)
     rw [show rs.drop 1 = ws.drop (k + 1) from by rw [← hrs, List.drop_drop]]
     exact q)
    have hKw := lh (fun (w' : World) (hb : Below wr.heap.size wr w') => show KL .u64 w' (.slice (if cap = k then some ⟨g, off, none⟩ else (some (⟨g, off, none⟩ : Addr)).map (·.add (k * 1))) (k + (manyN rs + 2) - k) (cap - k)) (rs.take (manyN rs + 2)) from by
     have q := (hkv.out.keep (hB.trans (hb.mono hB.size))).mid k (manyN rs + 2) (by omega)
     rwa [hrs] at q)
    have hs1 := run_slice_mid (P := Tryz.prog) (ty := 23) Tryz.underlying23 hi hz1 (some ⟨g, off, none⟩) n cap (k + 1) (k + 1 + manyN rs) (by omega) (by omega)
    have hs2 := run_slice_mid (P := Tryz.prog) (ty := 23) Tryz.underlying23 hi hz1 (some ⟨g, off, none⟩) n cap k (k + (manyN rs + 2)) (by omega) (by omega)
    have hdd : Hid (rs.drop (manyN rs + 2) = ws.drop (k + (manyN rs + 2))) := by show _ = _; rw [← hrs, List.drop_drop]
    have hfit2 : k + (manyN rs + 2) ≤ n := by omega
    have htl : (rs.take (manyN rs + 2)).length = manyN rs + 2 := by rw [List.length_take]; omega
    have hno := lh (fun (h : canB (atN rs) (manyN rs) = false) => show tkB gn rs = false from by unfold tkB; rw [h]; rfl)
    generalize rs.drop (manyN rs + 2) = rs2 at *
    generalize rs.take (manyN rs + 2) = again at *
    generalize peN rs = pe at *
    generalize (rs.drop 1).take (manyN rs) = os at *
    generalize rs.getD 0 0 = x at *
    generalize tkB gn rs = tk at *
    generalize evs gn rs = er at *
    generalize atN rs = a at *
    generalize manyN rs = mm at *
    clear hr0 hWr hfit hrl hrs
    rw [show ((k + 1 : Nat) : Int) = (k : Int) + 1 from by omega, show ((k + 1 + mm : Nat) : Int) = (k : Int) + 1 + (mm : Int) from by omega, show k + 1 + mm - (k + 1) = mm from by omega] at hs1
    rw [show ((k + (mm + 2) : Nat) : Int) = (k : Int) + (mm : Int) + 2 from by omega, show k + (mm + 2) - k = mm + 2 from by omega] at hs2
    rw [show k + 1 + mm - (k + 1) = mm from by omega] at hKu
    rw [show k + (mm + 2) - k = mm + 2 from by omega] at hKw
    generalize (if cap = k + 1 then some (⟨g, off, none⟩ : Addr) else (some (⟨g, off, none⟩ : Addr)).map (·.add ((k + 1) * 1))) = Au at *
    generalize (if cap = k then some (⟨g, off, none⟩ : Addr) else (some (⟨g, off, none⟩ : Addr)).map (·.add (k * 1))) = Aw at *
    generalize cap - (k + 1) = cu at *
    generalize cap - k = cw at *
    have hQ := Q7.start wr
    have g1 : ¬ ((n : Int) < (k : Int) + (mm : Int) + 2) := by omega
    have hbs := hB.size
    have wa : IntKind.i64.wrap ((k : Int) + 1) = (k : Int) + 1 := by rw [IntKind.wrap_i64]; omega
    have wb : IntKind.i64.wrap ((k : Int) + 1 + (mm : Int)) = (k : Int) + 1 + (mm : Int) := by rw [IntKind.wrap_i64]; omega
    have wc : IntKind.i64.wrap ((k : Int) + (mm : Int)) = (k : Int) + (mm : Int) := by rw [IntKind.wrap_i64]; omega
    have wd : IntKind.i64.wrap ((k : Int) + (mm : Int) + 2) = (k : Int) + (mm : Int) + 2 := by rw [IntKind.wrap_i64]; omega
    replace htl := lh htl
    replace hWo := lh hWo
    go_wp2_with fail
    refine wp_region_tail (S := (fun w' => Below wr.heap.size wr w')) (n := 18) (by kernel_rfl) ?_ (fun hHeld hInv => ?_) (by decide)
    ·(try dsimp only)
     exact hQ.bel
    refine takeS 0 (v := ?_) (tailAt (by kernel_rfl)) hInv (by decide) rfl (by kernel_rfl) (by kernel_rfl) (by kernel_rfl) (fun _ _ _ h => h) (by rfl) (by assumption) ?_ (fun hInv2 => ?_)
    rotate_left
    ·(intro w hSw; (try dsimp only at hSw); have c0 := hCx.out w hSw; go_simp <;> with_reducible rfl)
    clear hInv
    have hInv := hInv2
    clear hInv2
    try simp only [Act.put,sA,sB,sC] at hInv ⊢
    refine takeS 1 (v := ?_) (tailAt (by kernel_rfl)) hInv (by decide) rfl (by kernel_rfl) (by kernel_rfl) (by kernel_rfl) (fun _ _ _ h => h) (by rfl) (by assumption) ?_ (fun hInv2 => ?_)
    rotate_left
    ·(intro w hSw; (try dsimp only at hSw); have c0 := hCx.out w hSw; go_simp <;> with_reducible rfl)
    clear hInv
    have hInv := hInv2
    clear hInv2
    try simp only [Act.put,sA,sB,sC] at hInv ⊢
    refine takeS 2 (v := ?_) (tailAt (by kernel_rfl)) hInv (by decide) rfl (by kernel_rfl) (by kernel_rfl) (by kernel_rfl) (fun _ _ _ h => h) (by rfl) (by assumption) ?_ (fun hInv2 => ?_)
    rotate_left
    ·(intro w hSw; (try dsimp only at hSw); have c0 := hCx.out w hSw; go_simp <;> with_reducible rfl)
    clear hInv
    have hInv := hInv2
    clear hInv2
    try simp only [Act.put,sA,sB,sC] at hInv ⊢
    refine takeS 3 (v := ?_) (tailAt (by kernel_rfl)) hInv (by decide) rfl (by kernel_rfl) (by kernel_rfl) (by kernel_rfl) (fun _ _ _ h => h) (by rfl) (by assumption) ?_ (fun hInv2 => ?_)
    rotate_left
    ·(intro w hSw; (try dsimp only at hSw); have c0 := hCx.out w hSw; go_simp <;> with_reducible rfl)
    clear hInv
    have hInv := hInv2
    clear hInv2
    try simp only [Act.put,sA,sB,sC] at hInv ⊢
    refine takeS 4 (v := ?_) (tailAt (by kernel_rfl)) hInv (by decide) rfl (by kernel_rfl) (by kernel_rfl) (by kernel_rfl) (fun _ _ _ h => h) (by rfl) (by assumption) ?_ (fun hInv2 => ?_)
    rotate_left
    ·(intro w hSw; (try dsimp only at hSw); have c0 := hCx.out w hSw; go_simp <;> with_reducible rfl)
    clear hInv
    have hInv := hInv2
    clear hInv2
    try simp only [Act.put,sA,sB,sC] at hInv ⊢
    refine takeS 5 (v := ?_) (tailAt (by kernel_rfl)) hInv (by decide) rfl (by kernel_rfl) (by kernel_rfl) (by kernel_rfl) (fun _ _ _ h => h) (by rfl) (by assumption) ?_ (fun hInv2 => ?_)
    rotate_left
    ·(intro w hSw; (try dsimp only at hSw); have c0 := hCx.out w hSw; go_simp <;> with_reducible rfl)
    clear hInv
    have hInv := hInv2
    clear hInv2
    try simp only [Act.put,sA,sB,sC] at hInv ⊢
    refine takeS 7 (v := ?_) (tailAt (by kernel_rfl)) hInv (by decide) rfl (by kernel_rfl) (by kernel_rfl) (by kernel_rfl) (fun _ _ _ h => h) (by rfl) (by assumption) ?_ (fun hInv2 => ?_)
    rotate_left
    ·(intro w hSw; (try dsimp only at hSw); have c0 := hCx.out w hSw; go_simp <;> with_reducible rfl)
    clear hInv
    have hInv := hInv2
    clear hInv2
    try simp only [Act.put,sA,sB,sC] at hInv ⊢
    refine takeS 8 (v := ?_) (tailAt (by kernel_rfl)) hInv (by decide) rfl (by kernel_rfl) (by kernel_rfl) (by kernel_rfl) (fun _ _ _ h => h) (by rfl) (by assumption) ?_ (fun hInv2 => ?_)
    rotate_left
    ·(intro w hSw; (try dsimp only at hSw); have c0 := hCx.out w hSw; go_simp <;> with_reducible rfl)
    clear hInv
    have hInv := hInv2
    clear hInv2
    try simp only [Act.put,sA,sB,sC] at hInv ⊢
    refine takeS 9 (v := ?_) (tailAt (by kernel_rfl)) hInv (by decide) rfl (by kernel_rfl) (by kernel_rfl) (by kernel_rfl) (fun _ _ _ h => h) (by rfl) (by assumption) ?_ (fun hInv2 => ?_)
    rotate_left
    ·(intro w hSw; (try dsimp only at hSw); have c0 := hCx.out w hSw; go_simp <;> with_reducible rfl)
    clear hInv
    have hInv := hInv2
    clear hInv2
    try simp only [Act.put,sA,sB,sC] at hInv ⊢
    refine takeS 10 (v := ?_) (tailAt (by kernel_rfl)) hInv (by decide) rfl (by kernel_rfl) (by kernel_rfl) (by kernel_rfl) (fun _ _ _ h => h) (by rfl) (by assumption) ?_ (fun hInv2 => ?_)
    rotate_left
    ·(intro w hSw; (try dsimp only at hSw); have c0 := hCx.out w hSw; go_simp <;> with_reducible rfl)
    clear hInv
    have hInv := hInv2
    clear hInv2
    try simp only [Act.put,sA,sB,sC] at hInv ⊢
    refine takeS 11 (v := ?_) (tailAt (by kernel_rfl)) hInv (by decide) rfl (by kernel_rfl) (by kernel_rfl) (by kernel_rfl) (fun _ _ _ h => h) (by rfl) (by assumption) ?_ (fun hInv2 => ?_)
    rotate_left
    ·(intro w hSw; (try dsimp only at hSw); have c0 := hCx.out w hSw; go_simp <;> with_reducible rfl)
    clear hInv
    have hInv := hInv2
    clear hInv2
    try simp only [Act.put,sA,sB,sC] at hInv ⊢
    refine takeS 12 (v := ?_) (tailAt (by kernel_rfl)) hInv (by decide) rfl (by kernel_rfl) (by kernel_rfl) (by kernel_rfl) (fun _ _ _ h => h) (by rfl) (by assumption) ?_ (fun hInv2 => ?_)
    rotate_left
    ·(intro w hSw; (try dsimp only at hSw); have c0 := hCx.out w hSw; go_simp <;> with_reducible rfl)
    clear hInv
    have hInv := hInv2
    clear hInv2
    try simp only [Act.put,sA,sB,sC] at hInv ⊢
    refine takeS 13 (v := ?_) (tailAt (by kernel_rfl)) hInv (by decide) rfl (by kernel_rfl) (by kernel_rfl) (by kernel_rfl) (fun _ _ _ h => h) (by rfl) (by assumption) ?_ (fun hInv2 => ?_)
    rotate_left
    ·(intro w hSw; (try dsimp only at hSw); have c0 := hCx.out w hSw; go_simp <;> with_reducible rfl)
    clear hInv
    have hInv := hInv2
    clear hInv2
    try simp only [Act.put,sA,sB,sC] at hInv ⊢
    refine takeS 14 (v := ?_) (tailAt (by kernel_rfl)) hInv (by decide) rfl (by kernel_rfl) (by kernel_rfl) (by kernel_rfl) (fun _ _ _ h => h) (by rfl) (by assumption) ?_ (fun hInv2 => ?_)
    rotate_left
    ·(intro w hSw; (try dsimp only at hSw); have c0 := hCx.out w hSw; go_simp <;> with_reducible rfl)
    clear hInv
    have hInv := hInv2
    clear hInv2
    try simp only [Act.put,sA,sB,sC] at hInv ⊢
    refine twoS 6 17 hInv (by decide) (by decide) rfl rfl (by kernel_rfl) (fun K hK => ?_) (fun K hK => ?_)
    ·go_simp
     replace hQ := hQ.row0
     (try simp only [World.size_alloc, World.size_drew] at hQ)
     refine hK.out _ _ ?_ (fun hHeld2 hInv2 => ?_)
     ·(try dsimp only)
      exact hQ.bel
     clear hK K hHeld hInv
     have hHeld := hHeld2
     have hInv := hInv2
     clear hHeld2 hInv2
     try simp only [Act.put,sA,sB,sC] at hInv ⊢
     refine twoS 15 17 hInv (by decide) (by decide) rfl rfl (by kernel_rfl) (fun K hK => ?_) (fun K hK => ?_)
     ·rw [if_pos (by rfl)]
      obtain ⟨A5, c5, w', hrun, hQ2⟩ := hQ.row1 hKu hos hmm
      (try simp only [World.size_alloc, World.size_drew] at hrun hQ2)
      refine wp_append_run _ _ _ _ rfl _ _ _ rfl rfl hrun ?_
      clear hrun hQ
      have hQ := hQ2
      clear hQ2
      refine hK.out _ _ ?_ (fun hHeld2 hInv2 => ?_)
      ·(try dsimp only)
       exact hQ.bel
      clear hK K hHeld hInv
      have hHeld := hHeld2
      have hInv := hInv2
      clear hHeld2 hInv2
      try simp only [Act.put,sA,sB,sC] at hInv ⊢
      refine takeS 16 (v := ?_) (tailAt (by kernel_rfl)) hInv (by decide) rfl (by kernel_rfl) (by kernel_rfl) (by kernel_rfl) (fun _ _ _ h => h) (by rfl) (by assumption) ?_ (fun hInv2 => ?_)
      rotate_left
      ·(intro w hSw; (try dsimp only at hSw); have c0 := hCx.out w hSw; go_simp <;> with_reducible rfl)
      clear hInv
      have hInv := hInv2
      clear hInv2
      try simp only [Act.put,sA,sB,sC] at hInv ⊢
      refine oneS 17 hInv (by decide) rfl (by kernel_rfl) (fun K hK => ?_)
      go_simp
      replace hQ := hQ.blk0
      (try simp only [World.size_alloc, World.size_drew] at hQ)
      refine hK.out _ _ ?_ (fun hHeld2 hInv2 => ?_)
      ·(try dsimp only)
       exact hQ.bel
      clear hK K hHeld hInv
      have hHeld := hHeld2
      have hInv := hInv2
      clear hHeld2 hInv2
      try simp only [Act.put,sA,sB,sC] at hInv ⊢
      refine lastS 18 rfl (by decide) (by kernel_rfl) (fun K hK => ?_)
      obtain ⟨⟨h0, h1⟩, ⟨hf0, hf1⟩, w9, hw9, hX, hO9, hB9⟩ := hQ.last (a : Nat)
      go_simp
      (first | rw [← hw9] | rw [show w'.alloc (.cells #[.int .i64 ((a : Nat) : Int), .slice A5 mm c5] (64 : Nat)) = w9 from by rw [hw9]; simp [go_sem]])
      clear hw9 h0 h1 hf0 hf1 hQ
      refine hK.out _ _ ?_
      clear hK K
      try simp only [Act.put,sA,sB,sC]
      refine wpAnyS_done (by kernel_rfl) ?_ _
      obtain ⟨x0, x1⟩ := hX.c2
      have hBw := hB.trans (hB9.mono hbs)
      clear hInv hHeld
      cases hcb : canB (a : Int) (mm : Int) with
      | false =>
        have hR := lh (hq1.out (hno.out hcb))
        have hEn := lh (fun A c w => refEncode_no (gn : Nat) (a : Int) A mm c w hcb)
        clear hq1 hq2 hadv hpe hno hcb hM hKw hs2
        go_wp2_with (go_at_call 30; refine (hEn.out _ _ _).mono ?_; rintro e w10 ⟨rfl, hb10⟩; replace hBw := hBw.trans (hb10.mono hBw.size))
        go_ret2
        exact ⟨_, by rw [hR.out]; rfl, by rw [hR.out]; exact EN.nil _, hBw⟩
      | true =>
        obtain ⟨hcb1, hcb2, hcb3, hcb4⟩ := canB_iff.1 hcb
        have hm1 : 1 ≤ mm := by omega
        have hEn := lh (fun A c w (h : KL .u64 w (.slice A mm c) os) => refEncode_yes gn ((a : Int), .slice A mm c, os) w hgn h hWo.out (by show os.length ≤ 800; omega) (by unfold rightB; show canB (a : Int) (os.length : Nat) = true; rw [hos]; exact hcb))
        have hq3 := lh (hq2.out hcb)
        have hel : Hid ((encW gn a os).length = mm + 2) := by show _ = _; unfold encW; simp [hos]
        clear hno hcb hq2 hcb1 hcb2 hcb3 hcb4
        cases tk with
        | false =>
          have hR := lh (hq1.out rfl)
          clear hq1 hadv hpe hM
          go_wp2_with (first
           | (go_at_call 30; refine (hEn.out _ _ _ hO9.kl).mono ?_; rintro e w10 ⟨v10, rfl, hK10, hb10⟩
              rw [show (((a : Int), Value.slice A5 mm c5, os) : Ex).1.toNat = a from Int.toNat_natCast a] at hK10
              have hBx := hB9.trans (hb10.mono hB9.size)
              have hWd := words_any v10 _ _ _ w10 (by rw [hel.out]; omega) hK10 (hKw.out w10 hBx)
              rw [show decide (encW gn a os = again) = _ from hq3.out] at hWd
              obtain ⟨A10, c10, hv10, _⟩ := hK10.form hel.out
              subst hv10
              have hX10 := hX.keep hb10
              have hO10 := hO9.keep hb10
              clear hO9 hK10 hb10 hX x0 x1)
           | (go_at_call 21; refine hWd.mono ?_; rintro e w11 ⟨rfl, hb11⟩
              replace hBx := hBx.trans (hb11.mono hBx.size)
              replace hBw := hB.trans (hBx.mono hbs)
              have hX11 := hX10.keep hb11
              have hO11 := hO10.keep hb11
              obtain ⟨x0, x1⟩ := hX11.c2
              clear hWd hb11 hX10 hO10))
          go_ret2
          exact ⟨_, by rw [hR.out]; rfl, by rw [hR.out]; exact EN.nil _, hBw⟩
        | true =>
          have hM2 := lh (show evs gn ws = ((xs ++ [((a : Int), Value.slice none 0 0, os)]).map px).map some ++ evs gn (ws.drop (k + (mm + 2))) from by
           rw [hM.out, hadv.out rfl, hpe.out, hdd.out]
           simp [px])
          clear hq1 hadv hpe hM
          go_wp2_with (first
           | (go_at_call 30; refine (hEn.out _ _ _ hO9.kl).mono ?_; rintro e w10 ⟨v10, rfl, hK10, hb10⟩
              rw [show (((a : Int), Value.slice A5 mm c5, os) : Ex).1.toNat = a from Int.toNat_natCast a] at hK10
              have hBx := hB9.trans (hb10.mono hB9.size)
              have hWd := words_any v10 _ _ _ w10 (by rw [hel.out]; omega) hK10 (hKw.out w10 hBx)
              rw [show decide (encW gn a os = again) = _ from hq3.out] at hWd
              obtain ⟨A10, c10, hv10, _⟩ := hK10.form hel.out
              subst hv10
              have hX10 := hX.keep hb10
              have hO10 := hO9.keep hb10
              clear hO9 hK10 hb10 hX x0 x1)
           | (go_at_call 21; refine hWd.mono ?_; rintro e w11 ⟨rfl, hb11⟩
              replace hBx := hBx.trans (hb11.mono hBx.size)
              replace hBw := hB.trans (hBx.mono hbs)
              have hX11 := hX10.keep hb11
              have hO11 := hO10.keep hb11
              obtain ⟨x0, x1⟩ := hX11.c2
              clear hWd hb11 hX10 hO10
              have hD11 := hD.keep hBx
              have hoff : Off (.slice A5 mm c5) (Value.slice Ao mo co).ownBlock := fun g o m c e q => by
               have := (hD.1.lt g q).2
               obtain ⟨A7, c7, e7, h7⟩ := hO11.form
               rw [hos] at e7 h7
               obtain ⟨g8, e8, h8, _⟩ := h7 (by omega)
               rw [e7, e8] at e
               simp only [Value.slice.injEq, Option.some.injEq, Addr.mk.injEq, and_true] at e
               omega
              obtain ⟨A12, c12, w12, hr12, hD12, hb12⟩ := hD11.add (a := (a : Int)) hO11.kl (by omega) hoff hBw.size (by omega)
              have hmo2 : xs.length + 1 = (xs ++ [((a : Int), Value.slice A5 mm c5, os)]).length := by simp
              have hM3 : Hid (evs gn ws = ((xs ++ [((a : Int), Value.slice A5 mm c5, os)]).map px).map some ++ evs gn (ws.drop (k + (mm + 2)))) := by
               show _ = _
               rw [hM2.out]
               simp [px]
              replace hBw := hBw.trans hb12
              clear hD11 hoff hO11)
           | (at_builtin; refine wpList_append_run rfl _ _ 60 rfl _ _ _ rfl rfl hr12 ?_; clear hr12; (try simp only [Act.put,sA,sB,sC])))
          go_roundw
          case rel => exact ⟨k + (mm + 2), _, A12, _, c12, hfit2, by go_num, rfl, hmo2, by rw [← hmo2]; omega, hM3, hD12, hBw⟩
          case measure => simp [intOf]; omega
     ·go_simp
      replace hQ := hQ.blk0
      (try simp only [World.size_alloc, World.size_drew] at hQ)
      refine hK.out _ _ ?_ (fun hHeld2 hInv2 => ?_)
      ·(try dsimp only)
       exact hQ.bel
      clear hK K hHeld hInv
      have hHeld := hHeld2
      have hInv := hInv2
      clear hHeld2 hInv2
      try simp only [Act.put,sA,sB,sC] at hInv ⊢
      refine oneS 15 hInv (by decide) rfl (by kernel_rfl) (fun K hK => ?_)
      rw [if_pos (by rfl)]
      obtain ⟨A5, c5, w', hrun, hQ2⟩ := hQ.row1 hKu hos hmm
      (try simp only [World.size_alloc, World.size_drew] at hrun hQ2)
      refine wp_append_run _ _ _ _ rfl _ _ _ rfl rfl hrun ?_
      clear hrun hQ
      have hQ := hQ2
      clear hQ2
      refine hK.out _ _ ?_ (fun hHeld2 hInv2 => ?_)
      ·(try dsimp only)
       exact hQ.bel
      clear hK K hHeld hInv
      have hHeld := hHeld2
      have hInv := hInv2
      clear hHeld2 hInv2
      try simp only [Act.put,sA,sB,sC] at hInv ⊢
      refine takeS 16 (v := ?_) (tailAt (by kernel_rfl)) hInv (by decide) rfl (by kernel_rfl) (by kernel_rfl) (by kernel_rfl) (fun _ _ _ h => h) (by rfl) (by assumption) ?_ (fun hInv2 => ?_)
      rotate_left
      ·(intro w hSw; (try dsimp only at hSw); have c0 := hCx.out w hSw; go_simp <;> with_reducible rfl)
      clear hInv
      have hInv := hInv2
      clear hInv2
      try simp only [Act.put,sA,sB,sC] at hInv ⊢
      refine lastS 18 rfl (by decide) (by kernel_rfl) (fun K hK => ?_)
      obtain ⟨⟨h0, h1⟩, ⟨hf0, hf1⟩, w9, hw9, hX, hO9, hB9⟩ := hQ.last (a : Nat)
      go_simp
      (first | rw [← hw9] | rw [show w'.alloc (.cells #[.int .i64 ((a : Nat) : Int), .slice A5 mm c5] (64 : Nat)) = w9 from by rw [hw9]; simp [go_sem]])
      clear hw9 h0 h1 hf0 hf1 hQ
      refine hK.out _ _ ?_
      clear hK K
      try simp only [Act.put,sA,sB,sC]
      refine wpAnyS_done (by kernel_rfl) ?_ _
      obtain ⟨x0, x1⟩ := hX.c2
      have hBw := hB.trans (hB9.mono hbs)
      clear hInv hHeld
      cases hcb : canB (a : Int) (mm : Int) with
      | false =>
        have hR := lh (hq1.out (hno.out hcb))
        have hEn := lh (fun A c w => refEncode_no (gn : Nat) (a : Int) A mm c w hcb)
        clear hq1 hq2 hadv hpe hno hcb hM hKw hs2
        go_wp2_with (go_at_call 30; refine (hEn.out _ _ _).mono ?_; rintro e w10 ⟨rfl, hb10⟩; replace hBw := hBw.trans (hb10.mono hBw.size))
        go_ret2
        exact ⟨_, by rw [hR.out]; rfl, by rw [hR.out]; exact EN.nil _, hBw⟩
      | true =>
        obtain ⟨hcb1, hcb2, hcb3, hcb4⟩ := canB_iff.1 hcb
        have hm1 : 1 ≤ mm := by omega
        have hEn := lh (fun A c w (h : KL .u64 w (.slice A mm c) os) => refEncode_yes gn ((a : Int), .slice A mm c, os) w hgn h hWo.out (by show os.length ≤ 800; omega) (by unfold rightB; show canB (a : Int) (os.length : Nat) = true; rw [hos]; exact hcb))
        have hq3 := lh (hq2.out hcb)
        have hel : Hid ((encW gn a os).length = mm + 2) := by show _ = _; unfold encW; simp [hos]
        clear hno hcb hq2 hcb1 hcb2 hcb3 hcb4
        cases tk with
        | false =>
          have hR := lh (hq1.out rfl)
          clear hq1 hadv hpe hM
          go_wp2_with (first
           | (go_at_call 30; refine (hEn.out _ _ _ hO9.kl).mono ?_; rintro e w10 ⟨v10, rfl, hK10, hb10⟩
              rw [show (((a : Int), Value.slice A5 mm c5, os) : Ex).1.toNat = a from Int.toNat_natCast a] at hK10
              have hBx := hB9.trans (hb10.mono hB9.size)
              have hWd := words_any v10 _ _ _ w10 (by rw [hel.out]; omega) hK10 (hKw.out w10 hBx)
              rw [show decide (encW gn a os = again) = _ from hq3.out] at hWd
              obtain ⟨A10, c10, hv10, _⟩ := hK10.form hel.out
              subst hv10
              have hX10 := hX.keep hb10
              have hO10 := hO9.keep hb10
              clear hO9 hK10 hb10 hX x0 x1)
           | (go_at_call 21; refine hWd.mono ?_; rintro e w11 ⟨rfl, hb11⟩
              replace hBx := hBx.trans (hb11.mono hBx.size)
              replace hBw := hB.trans (hBx.mono hbs)
              have hX11 := hX10.keep hb11
              have hO11 := hO10.keep hb11
              obtain ⟨x0, x1⟩ := hX11.c2
              clear hWd hb11 hX10 hO10))
          go_ret2
          exact ⟨_, by rw [hR.out]; rfl, by rw [hR.out]; exact EN.nil _, hBw⟩
        | true =>
          have hM2 := lh (show evs gn ws = ((xs ++ [((a : Int), Value.slice none 0 0, os)]).map px).map some ++ evs gn (ws.drop (k + (mm + 2))) from by
           rw [hM.out, hadv.out rfl, hpe.out, hdd.out]
           simp [px])
          clear hq1 hadv hpe hM
          go_wp2_with (first
           | (go_at_call 30; refine (hEn.out _ _ _ hO9.kl).mono ?_; rintro e w10 ⟨v10, rfl, hK10, hb10⟩
              rw [show (((a : Int), Value.slice A5 mm c5, os) : Ex).1.toNat = a from Int.toNat_natCast a] at hK10
              have hBx := hB9.trans (hb10.mono hB9.size)
              have hWd := words_any v10 _ _ _ w10 (by rw [hel.out]; omega) hK10 (hKw.out w10 hBx)
              rw [show decide (encW gn a os = again) = _ from hq3.out] at hWd
              obtain ⟨A10, c10, hv10, _⟩ := hK10.form hel.out
              subst hv10
              have hX10 := hX.keep hb10
              have hO10 := hO9.keep hb10
              clear hO9 hK10 hb10 hX x0 x1)
           | (go_at_call 21; refine hWd.mono ?_; rintro e w11 ⟨rfl, hb11⟩
              replace hBx := hBx.trans (hb11.mono hBx.size)
              replace hBw := hB.trans (hBx.mono hbs)
              have hX11 := hX10.keep hb11
              have hO11 := hO10.keep hb11
              obtain ⟨x0, x1⟩ := hX11.c2
              clear hWd hb11 hX10 hO10
              have hD11 := hD.keep hBx
              have hoff : Off (.slice A5 mm c5) (Value.slice Ao mo co).ownBlock := fun g o m c e q => by
               have := (hD.1.lt g q).2
               obtain ⟨A7, c7, e7, h7⟩ := hO11.form
               rw [hos] at e7 h7
               obtain ⟨g8, e8, h8, _⟩ := h7 (by omega)
               rw [e7, e8] at e
               simp only [Value.slice.injEq, Option.some.injEq, Addr.mk.injEq, and_true] at e
               omega
              obtain ⟨A12, c12, w12, hr12, hD12, hb12⟩ := hD11.add (a := (a : Int)) hO11.kl (by omega) hoff hBw.size (by omega)
              have hmo2 : xs.length + 1 = (xs ++ [((a : Int), Value.slice A5 mm c5, os)]).length := by simp
              have hM3 : Hid (evs gn ws = ((xs ++ [((a : Int), Value.slice A5 mm c5, os)]).map px).map some ++ evs gn (ws.drop (k + (mm + 2)))) := by
               show _ = _
               rw [hM2.out]
               simp [px]
              replace hBw := hBw.trans hb12
              clear hD11 hoff hO11)
           | (at_builtin; refine wpList_append_run rfl _ _ 60 rfl _ _ _ rfl rfl hr12 ?_; clear hr12; (try simp only [Act.put,sA,sB,sC])))
          go_roundw
          case rel => exact ⟨k + (mm + 2), _, A12, _, c12, hfit2, by go_num, rfl, hmo2, by rw [← hmo2]; omega, hM3, hD12, hBw⟩
          case measure => simp [intOf]; omega
    ·go_simp
     replace hQ := hQ.blk0
     (try simp only [World.size_alloc, World.size_drew] at hQ)
     refine hK.out _ _ ?_ (fun hHeld2 hInv2 => ?_)
     ·(try dsimp only)
      exact hQ.bel
     clear hK K hHeld hInv
     have hHeld := hHeld2
     have hInv := hInv2
     clear hHeld2 hInv2
     try simp only [Act.put,sA,sB,sC] at hInv ⊢
     refine oneS 6 hInv (by decide) rfl (by kernel_rfl) (fun K hK => ?_)
     go_simp
     replace hQ := hQ.row0
     (try simp only [World.size_alloc, World.size_drew] at hQ)
     refine hK.out _ _ ?_ (fun hHeld2 hInv2 => ?_)
     ·(try dsimp only)
      exact hQ.bel
     clear hK K hHeld hInv
     have hHeld := hHeld2
     have hInv := hInv2
     clear hHeld2 hInv2
     try simp only [Act.put,sA,sB,sC] at hInv ⊢
     refine oneS 15 hInv (by decide) rfl (by kernel_rfl) (fun K hK => ?_)
     rw [if_pos (by rfl)]
     obtain ⟨A5, c5, w', hrun, hQ2⟩ := hQ.row1 hKu hos hmm
     (try simp only [World.size_alloc, World.size_drew] at hrun hQ2)
     refine wp_append_run _ _ _ _ rfl _ _ _ rfl rfl hrun ?_
     clear hrun hQ
     have hQ := hQ2
     clear hQ2
     refine hK.out _ _ ?_ (fun hHeld2 hInv2 => ?_)
     ·(try dsimp only)
      exact hQ.bel
     clear hK K hHeld hInv
     have hHeld := hHeld2
     have hInv := hInv2
     clear hHeld2 hInv2
     try simp only [Act.put,sA,sB,sC] at hInv ⊢
     refine takeS 16 (v := ?_) (tailAt (by kernel_rfl)) hInv (by decide) rfl (by kernel_rfl) (by kernel_rfl) (by kernel_rfl) (fun _ _ _ h => h) (by rfl) (by assumption) ?_ (fun hInv2 => ?_)
     rotate_left
     ·(intro w hSw; (try dsimp only at hSw); have c0 := hCx.out w hSw; go_simp <;> with_reducible rfl)
     clear hInv
     have hInv := hInv2
     clear hInv2
     try simp only [Act.put,sA,sB,sC] at hInv ⊢
     refine lastS 18 rfl (by decide) (by kernel_rfl) (fun K hK => ?_)
     obtain ⟨⟨h0, h1⟩, ⟨hf0, hf1⟩, w9, hw9, hX, hO9, hB9⟩ := hQ.last (a : Nat)
     go_simp
     (first | rw [← hw9] | rw [show w'.alloc (.cells #[.int .i64 ((a : Nat) : Int), .slice A5 mm c5] (64 : Nat)) = w9 from by rw [hw9]; simp [go_sem]])
     clear hw9 h0 h1 hf0 hf1 hQ
     refine hK.out _ _ ?_
     clear hK K
     try simp only [Act.put,sA,sB,sC]
     refine wpAnyS_done (by kernel_rfl) ?_ _
     obtain ⟨x0, x1⟩ := hX.c2
     have hBw := hB.trans (hB9.mono hbs)
     clear hInv hHeld
     cases hcb : canB (a : Int) (mm : Int) with
     | false =>
       have hR := lh (hq1.out (hno.out hcb))
       have hEn := lh (fun A c w => refEncode_no (gn : Nat) (a : Int) A mm c w hcb)
       clear hq1 hq2 hadv hpe hno hcb hM hKw hs2
       go_wp2_with (go_at_call 30; refine (hEn.out _ _ _).mono ?_; rintro e w10 ⟨rfl, hb10⟩; replace hBw := hBw.trans (hb10.mono hBw.size))
       go_ret2
       exact ⟨_, by rw [hR.out]; rfl, by rw [hR.out]; exact EN.nil _, hBw⟩
     | true =>
       obtain ⟨hcb1, hcb2, hcb3, hcb4⟩ := canB_iff.1 hcb
       have hm1 : 1 ≤ mm := by omega
       have hEn := lh (fun A c w (h : KL .u64 w (.slice A mm c) os) => refEncode_yes gn ((a : Int), .slice A mm c, os) w hgn h hWo.out (by show os.length ≤ 800; omega) (by unfold rightB; show canB (a : Int) (os.length : Nat) = true; rw [hos]; exact hcb))
       have hq3 := lh (hq2.out hcb)
       have hel : Hid ((encW gn a os).length = mm + 2) := by show _ = _; unfold encW; simp [hos]
       clear hno hcb hq2 hcb1 hcb2 hcb3 hcb4
       cases tk with
       | false =>
         have hR := lh (hq1.out rfl)
         clear hq1 hadv hpe hM
         go_wp2_with (first
          | (go_at_call 30; refine (hEn.out _ _ _ hO9.kl).mono ?_; rintro e w10 ⟨v10, rfl, hK10, hb10⟩
             rw [show (((a : Int), Value.slice A5 mm c5, os) : Ex).1.toNat = a from Int.toNat_natCast a] at hK10
             have hBx := hB9.trans (hb10.mono hB9.size)
             have hWd := words_any v10 _ _ _ w10 (by rw [hel.out]; omega) hK10 (hKw.out w10 hBx)
             rw [show decide (encW gn a os = again) = _ from hq3.out] at hWd
             obtain ⟨A10, c10, hv10, _⟩ := hK10.form hel.out
             subst hv10
             have hX10 := hX.keep hb10
             have hO10 := hO9.keep hb10
             clear hO9 hK10 hb10 hX x0 x1)
          | (go_at_call 21; refine hWd.mono ?_; rintro e w11 ⟨rfl, hb11⟩
             replace hBx := hBx.trans (hb11.mono hBx.size)
             replace hBw := hB.trans (hBx.mono hbs)
             have hX11 := hX10.keep hb11
             have hO11 := hO10.keep hb11
             obtain ⟨x0, x1⟩ := hX11.c2
             clear hWd hb11 hX10 hO10))
         go_ret2
         exact ⟨_, by rw [hR.out]; rfl, by rw [hR.out]; exact EN.nil _, hBw⟩
       | true =>
         have hM2 := lh (show evs gn ws = ((xs ++ [((a : Int), Value.slice none 0 0, os)]).map px).map some ++ evs gn (ws.drop (k + (mm + 2))) from by
          rw [hM.out, hadv.out rfl, hpe.out, hdd.out]
          simp [px])
         clear hq1 hadv hpe hM
         go_wp2_with (first
          | (go_at_call 30; refine (hEn.out _ _ _ hO9.kl).mono ?_; rintro e w10 ⟨v10, rfl, hK10, hb10⟩
             rw [show (((a : Int), Value.slice A5 mm c5, os) : Ex).1.toNat = a from Int.toNat_natCast a] at hK10
             have hBx := hB9.trans (hb10.mono hB9.size)
             have hWd := words_any v10 _ _ _ w10 (by rw [hel.out]; omega) hK10 (hKw.out w10 hBx)
             rw [show decide (encW gn a os = again) = _ from hq3.out] at hWd
             obtain ⟨A10, c10, hv10, _⟩ := hK10.form hel.out
             subst hv10
             have hX10 := hX.keep hb10
             have hO10 := hO9.keep hb10
             clear hO9 hK10 hb10 hX x0 x1)
          | (go_at_call 21; refine hWd.mono ?_; rintro e w11 ⟨rfl, hb11⟩
             replace hBx := hBx.trans (hb11.mono hBx.size)
             replace hBw := hB.trans (hBx.mono hbs)
             have hX11 := hX10.keep hb11
             have hO11 := hO10.keep hb11
             obtain ⟨x0, x1⟩ := hX11.c2
             clear hWd hb11 hX10 hO10
             have hD11 := hD.keep hBx
             have hoff : Off (.slice A5 mm c5) (Value.slice Ao mo co).ownBlock := fun g o m c e q => by
              have := (hD.1.lt g q).2
              obtain ⟨A7, c7, e7, h7⟩ := hO11.form
              rw [hos] at e7 h7
              obtain ⟨g8, e8, h8, _⟩ := h7 (by omega)
              rw [e7, e8] at e
              simp only [Value.slice.injEq, Option.some.injEq, Addr.mk.injEq, and_true] at e
              omega
             obtain ⟨A12, c12, w12, hr12, hD12, hb12⟩ := hD11.add (a := (a : Int)) hO11.kl (by omega) hoff hBw.size (by omega)
             have hmo2 : xs.length + 1 = (xs ++ [((a : Int), Value.slice A5 mm c5, os)]).length := by simp
             have hM3 : Hid (evs gn ws = ((xs ++ [((a : Int), Value.slice A5 mm c5, os)]).map px).map some ++ evs gn (ws.drop (k + (mm + 2)))) := by
              show _ = _
              rw [hM2.out]
              simp [px]
             replace hBw := hBw.trans hb12
             clear hD11 hoff hO11)
          | (at_builtin; refine wpList_append_run rfl _ _ 60 rfl _ _ _ rfl rfl hr12 ?_; clear hr12; (try simp only [Act.put,sA,sB,sC])))
         go_roundw
         case rel => exact ⟨k + (mm + 2), _, A12, _, c12, hfit2, by go_num, rfl, hmo2, by rw [← hmo2]; omega, hM3, hD12, hBw⟩
         case measure => simp [intOf]; omega
   ·have hR := lh (hq1.out (by unfold tkB; rw [decide_eq_false hfit]; simp))
    generalize rs.getD 0 0 = x at *
    generalize manyN rs = mm at *
    have g1 : (n : Int) < (k : Int) + (mm : Int) + 2 := by omega
    clear hq1 hM hCx hWr hr0 hrs
    go_wp2_with fail
    go_ret2
    exact ⟨_, by rw [hR.out]; rfl, by rw [hR.out]; exact EN.nil _, hB⟩
  ·obtain rfl : k = n := by omega
   have hR := lh (decL_all (gn := gn) (ws := ws) (xs := xs.map px) (by rw [hM.out, List.drop_of_length_le (by rw [hn.out]; exact Nat.le_refl _), evs_nil, List.append_nil]))
   have hEN := hD.en
   go_wp2_with fail
   go_ret2
   exact ⟨_, by rw [hR.out]; rfl, by rw [hR.out]; exact hEN, hB⟩
end Go.Proofs.YtkdhdibjbabgfaaGreatDoor
end
