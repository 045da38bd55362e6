/-
  Part of the proof of SoundTells,SoundGiven.
-/
import Derived.Test.YtdmmbnnejbmdpaaGreatDoorVu93
import Derived.Test.YtdmmbnnejbmdpaaGreatDoorVu97
import Derived.Test.YtdmmbnnejbmdpaaGreatDoorVu90
set_option maxRecDepth 10000
set_option maxHeartbeats 2000000
set_option linter.unusedVariables false
set_option linter.unusedSimpArgs false
set_option maxRecDepth 100000
namespace Go.Proofs.YtdmmbnnejbmdpaaGreatDoor
open Go.RowKit
def decH (l : List Nat) : Option (Nat × Nat × Nat) := if l.length < 2 then none else
 if hdB (l.getD 0 0 % 65536 : Nat) (l.getD 0 0 / 65536 % 65536 : Nat) (l.getD 1 0 : Nat) && decide (l.getD 0 0 / 4294967296 = 4200005632) then some (l.getD 0 0 % 65536, l.getD 0 0 / 65536 % 65536, l.getD 1 0) else none
theorem gI1 (x : Nat) : getI (x : Nat) 0 16 = ((x % 65536 : Nat) : Int) := by
 unfold getI; rw [show (0 : Int).toNat = 0 from rfl, show (16 : Int).toNat = 16 from rfl, Int.toNat_natCast, get1]
theorem gI2 (x : Nat) : getI (x : Nat) 16 16 = ((x / 65536 % 65536 : Nat) : Int) := by
 unfold getI; rw [show (16 : Int).toNat = 16 from rfl, Int.toNat_natCast, get2]
theorem F3.drew {w : World} {b : Nat} (h : F3 w b) : F3 w.drew b := h
theorem st3_ex {B b : Nat} {w W : World} {x0 y0 z0 : Value} (hB : Below B w W) (hl : B ≤ b) (d0 : W.cell? ⟨b, 0, none⟩ = some x0) (d1 : W.cell? ⟨b, 1, none⟩ = some y0) (d2 : W.cell? ⟨b, 2, none⟩ = some z0) (x y z : Int) :
 ∃ w5, w5 = ((W.setCell ⟨b, 0, none⟩ (.int .i64 x)).setCell ⟨b, 1, none⟩ (.int .i64 y)).setCell ⟨b, 2, none⟩ (.int .u64 z) ∧ C3 w5 b (.int .i64 x) (.int .i64 y) (.int .u64 z) ∧ Below B w w5 :=
 ⟨_, rfl, by refine ⟨?_, ?_, ?_⟩ <;> simp [go_sem, d0, d1, d2], (((hB.setCell (by simpa using hl) _).setCell (by simpa using hl) _).setCell (by simpa using hl) _)⟩
theorem decode_short (v : Value) (l : List Nat) (w : World) (hv : KL .u64 w v l) (h : l.length < 2) :
 Calls Tryz.prog 86 #[v] w fun e w' => e = .returned (.tuple #[nV 0 0 0, .bool false]) ∧ Below w.heap.size w w' := by
 obtain ⟨n, hn⟩ : ∃ n, l.length = n := ⟨_, rfl⟩
 obtain ⟨A, cap, rfl, hC⟩ := hv.form hn
 rw [hn] at h
 have h' : (n : Int) < 2 := by omega
 clear hC hv hn
 have hR := C3.new w (.int .i64 0) (.int .i64 0) (.int .u64 0) 71
 have hF := F3.new w (.int .i64 0) (.int .i64 0) (.int .u64 0) 71
 go_enter Tryz.func86, Tryz.ntmps86
 have hB : Below w.heap.size w (w.alloc (.cells #[.int .i64 0, .int .i64 0, .int .u64 0] 71)) := bZ _ _
 go_wp2_with fail
 refine bodyPost_ret (v := .tuple #[nV 0 0 0, .bool false]) (by simp [nV, results, Tryz.results86, go_sem]) rfl ⟨rfl, ?_⟩
 go_grown
theorem decode_yes (v : Value) (l : List Nat) (x y : Nat) (w : World) (hv : KL .u64 w v l) (h2 : ¬ l.length < 2) (hx : l.getD 0 0 = x) (hy : l.getD 1 0 = y) (hx64 : x < 18446744073709551616) (t s : Nat) (ht : x % 65536 = t) (hs : x / 65536 % 65536 = s) (hr : hdB t s y = true) (hsg : hdW t s = x) :
 Calls Tryz.prog 86 #[v] w fun e w' => e = .returned (.tuple #[nV (t : Nat) (s : Nat) (y : Nat), .bool true]) ∧ Below w.heap.size w w' := by
 obtain ⟨n, hn⟩ : ∃ n, l.length = n := ⟨_, rfl⟩
 obtain ⟨A, cap, rfl, hC⟩ := hv.form hn
 rw [hn] at h2
 have h2' : ¬ (n : Int) < 2 := by omega
 have hB0 : Below w.heap.size w (w.alloc (.cells #[.int .i64 0, .int .i64 0, .int .u64 0] 71)) := bZ _ _
 obtain ⟨g, off, rfl, hcap, hg, c0⟩ := hC (w.alloc (.cells #[.int .i64 0, .int .i64 0, .int .u64 0] 71)) 0 hB0 (by omega)
 obtain ⟨g', off', he, _, _, c1⟩ := hC (w.alloc (.cells #[.int .i64 0, .int .i64 0, .int .u64 0] 71)) 1 hB0 (by omega)
 cases he
 rw [hx, Nat.add_zero] at c0
 rw [hy] at c1
 have hG1 := lh (fun w => show Calls Tryz.prog 101 #[.int .u64 (x : Nat), .int .i64 0, .int .i64 16] w fun e w' => e = .returned (.int .u64 (t : Nat)) ∧ w' = w from (get_yes (x : Nat) 0 16 w (by omega) (by omega) (by omega) (by omega) (by omega) (by omega)).mono fun e w' ⟨he, hw⟩ => ⟨by rw [he, gI1, ht], hw.symm⟩)
 have hG2 := lh (fun w => show Calls Tryz.prog 101 #[.int .u64 (x : Nat), .int .i64 16, .int .i64 16] w fun e w' => e = .returned (.int .u64 (s : Nat)) ∧ w' = w from (get_yes (x : Nat) 16 16 w (by omega) (by omega) (by omega) (by omega) (by omega) (by omega)).mono fun e w' ⟨he, hw⟩ => ⟨by rw [he, gI2, hs], hw.symm⟩)
 have hRt := lh (fun w => right_any_oc t s y w (by omega))
 have e1 : IntKind.i64.wrap (t : Int) = (t : Int) := by rw [IntKind.wrap_i64]; omega
 have e2 : IntKind.i64.wrap (s : Int) = (s : Int) := by rw [IntKind.wrap_i64]; omega
 have hFs := lh (fun w => first_any_oc t s y w (by omega) (by omega))
 rw [hsg] at hFs
 rw [hr] at hRt
 (try unfold nV at hRt)
 (try unfold nV at hFs)
 have hR := C3.new w (.int .i64 0) (.int .i64 0) (.int .u64 0) 71
 have hF := F3.new w (.int .i64 0) (.int .i64 0) (.int .u64 0) 71
 have i0 : (0 : Int) < (n : Int) := by omega
 have i1 : (1 : Int) < (n : Int) := by omega
 have j0 : 0 < n := by omega
 have j1 : 1 < n := by omega
 clear hC hv hn hx hy ht hs hcap hx64
 go_enter Tryz.func86, Tryz.ntmps86
 generalize hW : w.alloc (.cells #[.int .i64 0, .int .i64 0, .int .u64 0] 71) = W at *
 have hlw := hR.lt
 have hb1 : Below w.heap.size w W.drew := ⟨hB0.os, hB0.tape, hB0.output, hB0.size, hB0.block⟩
 have hS0 : W.drew.cell? ⟨g, off, none⟩ = some (.int .u64 (x : Nat)) ∧ W.drew.cell? ⟨g, off + 1, none⟩ = some (.int .u64 (y : Nat)) ∧ C3 W.drew w.heap.size (.int .i64 0) (.int .i64 0) (.int .u64 0) ∧ F3 W.drew w.heap.size ∧ Below w.heap.size w W.drew ∧ w.heap.size < W.drew.heap.size := ⟨c0, c1, hR, hF, hb1, hlw⟩
 go_wp2_with fail
 try rw [hW]
 refine wp_region_tail (S := (fun w' => w'.cell? ⟨g, off, none⟩ = some (.int .u64 (x : Nat)) ∧ w'.cell? ⟨g, off + 1, none⟩ = some (.int .u64 (y : Nat)) ∧ C3 w' w.heap.size (.int .i64 0) (.int .i64 0) (.int .u64 0) ∧ F3 w' w.heap.size ∧ Below w.heap.size w w' ∧ w.heap.size < w'.heap.size)) (n := 15) (by kernel_rfl) ?_ (fun hHeld hInv => ?_) (by decide)
 ·(try dsimp only)
  (first | exact hS0 | exact hHeld | (obtain ⟨q0, q1, qR, qF, qB, qS⟩ := hHeld; have hb := bZ W.drew (.cells #[.int .i64 0, .int .i64 0, .int .u64 0] 71); exact ⟨cellK q0 hb, cellK q1 hb, qR.keep hb, qF.keep qS hb, qB.trans (hb.mono (by omega)), Nat.lt_of_lt_of_le qS hb.size⟩))
 refine takeVS 0 hInv ?_; clear hInv; intro hInv
 refine takeVS 1 hInv ?_; clear hInv; intro hInv
 refine takeVS 2 hInv ?_; clear hInv; intro hInv
 refine takeVS 5 hInv ?_; clear hInv; intro hInv
 refine takeVS 6 hInv ?_; clear hInv; intro hInv
 refine takeVS 7 hInv ?_; clear hInv; intro hInv
 refine takeVS 10 hInv ?_; clear hInv; intro hInv
 refine takeVS 11 hInv ?_; clear hInv; intro hInv
 refine takeVS 12 hInv ?_; clear hInv; intro hInv
 refine twoS 3 14 hInv (by decide) (by decide) rfl rfl (by kernel_rfl) (fun K hK => ?_) (fun K hK => ?_)
 ·go_simp
  (go_at_call 101; (with_reducible refine (hG1.out _).mono ?_); rintro e w8 ⟨rfl, rfl⟩)
  refine hK.out _ _ ?_ (fun hHeld2 hInv2 => ?_)
  ·(try dsimp only)
   (first | exact hS0 | exact hHeld | (obtain ⟨q0, q1, qR, qF, qB, qS⟩ := hHeld; have hb := bZ W.drew (.cells #[.int .i64 0, .int .i64 0, .int .u64 0] 71); exact ⟨cellK q0 hb, cellK q1 hb, qR.keep hb, qF.keep qS hb, qB.trans (hb.mono (by omega)), Nat.lt_of_lt_of_le qS hb.size⟩))
  clear hK K hHeld hInv
  have hHeld := hHeld2
  have hInv := hInv2
  clear hHeld2 hInv2
  try simp only [Act.put,sA,sB,sC] at hInv ⊢
  refine takeVS 4 hInv ?_; clear hInv; intro hInv
  refine twoS 8 14 hInv (by decide) (by decide) rfl rfl (by kernel_rfl) (fun K hK => ?_) (fun K hK => ?_)
  ·go_simp
   (go_at_call 101; (with_reducible refine (hG2.out _).mono ?_); rintro e w8 ⟨rfl, rfl⟩)
   refine hK.out _ _ ?_ (fun hHeld2 hInv2 => ?_)
   ·(try dsimp only)
    (first | exact hS0 | exact hHeld | (obtain ⟨q0, q1, qR, qF, qB, qS⟩ := hHeld; have hb := bZ W.drew (.cells #[.int .i64 0, .int .i64 0, .int .u64 0] 71); exact ⟨cellK q0 hb, cellK q1 hb, qR.keep hb, qF.keep qS hb, qB.trans (hb.mono (by omega)), Nat.lt_of_lt_of_le qS hb.size⟩))
   clear hK K hHeld hInv
   have hHeld := hHeld2
   have hInv := hInv2
   clear hHeld2 hInv2
   try simp only [Act.put,sA,sB,sC] at hInv ⊢
   refine takeVS 9 hInv ?_; clear hInv; intro hInv
   refine takeVS 13 hInv ?_; clear hInv; intro hInv
   refine oneS 14 hInv (by decide) rfl (by kernel_rfl) (fun K hK => ?_)
   go_simp
   skip
   refine hK.out _ _ ?_ (fun hHeld2 hInv2 => ?_)
   ·(try dsimp only)
    (first | exact hS0 | exact hHeld | (obtain ⟨q0, q1, qR, qF, qB, qS⟩ := hHeld; have hb := bZ W.drew (.cells #[.int .i64 0, .int .i64 0, .int .u64 0] 71); exact ⟨cellK q0 hb, cellK q1 hb, qR.keep hb, qF.keep qS hb, qB.trans (hb.mono (by omega)), Nat.lt_of_lt_of_le qS hb.size⟩))
   clear hK K hHeld hInv
   have hHeld := hHeld2
   have hInv := hInv2
   clear hHeld2 hInv2
   try simp only [Act.put,sA,sB,sC] at hInv ⊢
   refine lastS 15 rfl (by decide) (by kernel_rfl) (fun K hK => ?_)
   go_simp
   refine hK.out _ _ ?_
   clear hK K
   try simp only [Act.put,sA,sB,sC]
   refine wpAnyS_done (by kernel_rfl) ?_ _
   obtain ⟨V, hV⟩ : ∃ V : World, V = (W.alloc (.cells #[.int .i64 (t : Nat), .int .i64 (s : Nat), .int .u64 (y : Nat)] (71 : Nat))).drew := ⟨_, rfl⟩
   have hbV : Below W.heap.size W V := by rw [hV]; exact (bZ W _).drew
   have hkV : C3 V W.heap.size (.int .i64 (t : Nat)) (.int .i64 (s : Nat)) (.int .u64 (y : Nat)) := by rw [hV]; exact C3.new _ _ _ _ _
   rw [← hV]
   have v0 := cellK c0 hbV
   have hRV := hR.keep hbV
   have hFV := hF.keep hlw hbV
   have hBV : Below w.heap.size w V := hB0.trans (hbV.mono (by omega))
   have hlV : w.heap.size < V.heap.size := Nat.lt_of_lt_of_le hlw hbV.size
   clear hV hHeld hInv hbV hS0 c0 c1 hR hF hb1 hB0 hG1 hG2 hW
   obtain ⟨B9, hB9⟩ : ∃ B9, W.heap.size = B9 := ⟨_, rfl⟩
   rw [hB9] at hkV hg hlw ⊢
   clear hB9
   have hbV1 : Below w.heap.size w V.drew := ⟨hBV.os, hBV.tape, hBV.output, hBV.size, hBV.block⟩
   have hS1 : V.drew.cell? ⟨g, off, none⟩ = some (.int .u64 (x : Nat)) ∧ C3 V.drew B9 (.int .i64 (t : Nat)) (.int .i64 (s : Nat)) (.int .u64 (y : Nat)) ∧ C3 V.drew w.heap.size (.int .i64 0) (.int .i64 0) (.int .u64 0) ∧ F3 V.drew w.heap.size ∧ Below w.heap.size w V.drew ∧ w.heap.size < V.drew.heap.size := ⟨v0, hkV, hRV, hFV, hbV1, hlV⟩
   (try simp only [Exit.inBlock, Exit.then])
   go_wp2_with fail
   refine wp_region_held_drew (S := (fun w' => w'.cell? ⟨g, off, none⟩ = some (.int .u64 (x : Nat)) ∧ C3 w' B9 (.int .i64 (t : Nat)) (.int .i64 (s : Nat)) (.int .u64 (y : Nat)) ∧ C3 w' w.heap.size (.int .i64 0) (.int .i64 0) (.int .u64 0) ∧ F3 w' w.heap.size ∧ Below w.heap.size w w' ∧ w.heap.size < w'.heap.size)) (by kernel_rfl) ?_ (fun hHeld => ?_)
   ·(try dsimp only)
    (first | exact hS1 | (obtain ⟨q0, qC, qR, qF, qB, qS⟩ := hHeld; exact ⟨cellK q0 hb, qC.keep hb, qR.keep hb, qF.keep qS hb, qB.trans (hb.mono (by omega)), Nat.lt_of_lt_of_le qS hb.size⟩))
   refine takeL 0 (v := ?_) rfl (by kernel_rfl) (by kernel_rfl) (by kernel_rfl) (fun _ _ _ h => h) (by rfl) (by assumption) ?_ ?_
   rotate_left
   ·(intro w hSw; (try dsimp only at hSw); (try obtain ⟨p0, ⟨p1, p2, p3⟩, _⟩ := hSw); go_simp <;> with_reducible rfl)
   try simp only [Act.put,sA,sB,sC]
   refine oneL 1 rfl (by kernel_rfl) (fun K hK => ?_)
   go_simp
   (go_at_call 109; (with_reducible refine (hRt.out _).mono ?_); rintro e w8 ⟨rfl, hb⟩)
   refine hK.out _ _ ?_ (fun hHeld2 => ?_)
   ·(try dsimp only)
    (first | exact hS1 | (obtain ⟨q0, qC, qR, qF, qB, qS⟩ := hHeld; exact ⟨cellK q0 hb, qC.keep hb, qR.keep hb, qF.keep qS hb, qB.trans (hb.mono (by omega)), Nat.lt_of_lt_of_le qS hb.size⟩))
   clear hK K hHeld
   have hHeld := hHeld2
   clear hHeld2
   try simp only [Act.put,sA,sB,sC]
   refine takeL 2 (v := ?_) rfl (by kernel_rfl) (by kernel_rfl) (by kernel_rfl) (fun _ _ _ h => h) (by rfl) (by assumption) ?_ ?_
   rotate_left
   ·(intro w hSw; (try dsimp only at hSw); (try obtain ⟨p0, ⟨p1, p2, p3⟩, _⟩ := hSw); go_simp <;> with_reducible rfl)
   try simp only [Act.put,sA,sB,sC]
   refine takeL 3 (v := ?_) rfl (by kernel_rfl) (by kernel_rfl) (by kernel_rfl) (fun _ _ _ h => h) (by rfl) (by assumption) ?_ ?_
   rotate_left
   ·(intro w hSw; (try dsimp only at hSw); (try obtain ⟨p0, ⟨p1, p2, p3⟩, _⟩ := hSw); go_simp <;> with_reducible rfl)
   try simp only [Act.put,sA,sB,sC]
   refine takeL 4 (v := ?_) rfl (by kernel_rfl) (by kernel_rfl) (by kernel_rfl) (fun _ _ _ h => h) (by rfl) (by assumption) ?_ ?_
   rotate_left
   ·(intro w hSw; (try dsimp only at hSw); (try obtain ⟨p0, ⟨p1, p2, p3⟩, _⟩ := hSw); go_simp <;> with_reducible rfl)
   try simp only [Act.put,sA,sB,sC]
   refine takeL 6 (v := ?_) rfl (by kernel_rfl) (by kernel_rfl) (by kernel_rfl) (fun _ _ _ h => h) (by rfl) (by assumption) ?_ ?_
   rotate_left
   ·(intro w hSw; (try dsimp only at hSw); (try obtain ⟨p0, ⟨p1, p2, p3⟩, _⟩ := hSw); go_simp <;> with_reducible rfl)
   try simp only [Act.put,sA,sB,sC]
   refine takeL 7 (v := ?_) rfl (by kernel_rfl) (by kernel_rfl) (by kernel_rfl) (fun _ _ _ h => h) (by rfl) (by assumption) ?_ ?_
   rotate_left
   ·(intro w hSw; (try dsimp only at hSw); (try obtain ⟨p0, ⟨p1, p2, p3⟩, _⟩ := hSw); go_simp <;> with_reducible rfl)
   try simp only [Act.put,sA,sB,sC]
   refine takeL 8 (v := ?_) rfl (by kernel_rfl) (by kernel_rfl) (by kernel_rfl) (fun _ _ _ h => h) (by rfl) (by assumption) ?_ ?_
   rotate_left
   ·(intro w hSw; (try dsimp only at hSw); (try obtain ⟨p0, ⟨p1, p2, p3⟩, _⟩ := hSw); go_simp <;> with_reducible rfl)
   try simp only [Act.put,sA,sB,sC]
   refine oneL 5 rfl (by kernel_rfl) (fun K hK => ?_)
   go_simp
   (go_at_call 110; (with_reducible refine (hFs.out _).mono ?_); rintro e w8 ⟨rfl, hb⟩)
   refine hK.out _ _ ?_ (fun hHeld2 => ?_)
   ·(try dsimp only)
    (first | exact hS1 | (obtain ⟨q0, qC, qR, qF, qB, qS⟩ := hHeld; exact ⟨cellK q0 hb, qC.keep hb, qR.keep hb, qF.keep qS hb, qB.trans (hb.mono (by omega)), Nat.lt_of_lt_of_le qS hb.size⟩))
   clear hK K hHeld
   have hHeld := hHeld2
   clear hHeld2
   try simp only [Act.put,sA,sB,sC]
   refine takeL 9 (v := ?_) rfl (by kernel_rfl) (by kernel_rfl) (by kernel_rfl) (fun _ _ _ h => h) (by rfl) (by assumption) ?_ ?_
   rotate_left
   ·(intro w hSw; (try dsimp only at hSw); (try obtain ⟨p0, ⟨p1, p2, p3⟩, _⟩ := hSw); go_simp <;> with_reducible rfl)
   try simp only [Act.put,sA,sB,sC]
   refine takeL 10 (v := ?_) rfl (by kernel_rfl) (by kernel_rfl) (by kernel_rfl) (fun _ _ _ h => h) (by rfl) (by assumption) ?_ ?_
   rotate_left
   ·(intro w hSw; (try dsimp only at hSw); (try obtain ⟨p0, ⟨p1, p2, p3⟩, _⟩ := hSw); go_simp <;> with_reducible rfl)
   try simp only [Act.put,sA,sB,sC]
   refine wpAnyH_done (by kernel_rfl) ?_ _
   obtain ⟨q0, ⟨m0, m1, m2⟩, ⟨d0, d1, d2⟩, ⟨f0, f1, f2⟩, qB, qS⟩ := hHeld
   (try simp only [Exit.inBlock, Exit.then])
   go_wp2_with fail
   (try simp only [Exit.inBlock, Exit.then])
   obtain ⟨w5, h5, ⟨t0, t1, t2⟩, hb5⟩ := st3_ex qB (Nat.le_refl _) d0 d1 d2 (t : Nat) (s : Nat) (y : Nat)
   rw [← h5]
   refine bodyPost_ret (v := .tuple #[nV (t : Nat) (s : Nat) (y : Nat), .bool true]) (by simp [nV, results, Tryz.results86, go_sem, t0, t1, t2]) rfl ⟨rfl, hb5⟩
  ·go_simp
   skip
   refine hK.out _ _ ?_ (fun hHeld2 hInv2 => ?_)
   ·(try dsimp only)
    (first | exact hS0 | exact hHeld | (obtain ⟨q0, q1, qR, qF, qB, qS⟩ := hHeld; have hb := bZ W.drew (.cells #[.int .i64 0, .int .i64 0, .int .u64 0] 71); exact ⟨cellK q0 hb, cellK q1 hb, qR.keep hb, qF.keep qS hb, qB.trans (hb.mono (by omega)), Nat.lt_of_lt_of_le qS hb.size⟩))
   clear hK K hHeld hInv
   have hHeld := hHeld2
   have hInv := hInv2
   clear hHeld2 hInv2
   try simp only [Act.put,sA,sB,sC] at hInv ⊢
   refine oneS 8 hInv (by decide) rfl (by kernel_rfl) (fun K hK => ?_)
   go_simp
   (go_at_call 101; (with_reducible refine (hG2.out _).mono ?_); rintro e w8 ⟨rfl, rfl⟩)
   refine hK.out _ _ ?_ (fun hHeld2 hInv2 => ?_)
   ·(try dsimp only)
    (first | exact hS0 | exact hHeld | (obtain ⟨q0, q1, qR, qF, qB, qS⟩ := hHeld; have hb := bZ W.drew (.cells #[.int .i64 0, .int .i64 0, .int .u64 0] 71); exact ⟨cellK q0 hb, cellK q1 hb, qR.keep hb, qF.keep qS hb, qB.trans (hb.mono (by omega)), Nat.lt_of_lt_of_le qS hb.size⟩))
   clear hK K hHeld hInv
   have hHeld := hHeld2
   have hInv := hInv2
   clear hHeld2 hInv2
   try simp only [Act.put,sA,sB,sC] at hInv ⊢
   refine takeVS 9 hInv ?_; clear hInv; intro hInv
   refine takeVS 13 hInv ?_; clear hInv; intro hInv
   refine lastS 15 rfl (by decide) (by kernel_rfl) (fun K hK => ?_)
   go_simp
   refine hK.out _ _ ?_
   clear hK K
   try simp only [Act.put,sA,sB,sC]
   refine wpAnyS_done (by kernel_rfl) ?_ _
   obtain ⟨V, hV⟩ : ∃ V : World, V = (W.alloc (.cells #[.int .i64 (t : Nat), .int .i64 (s : Nat), .int .u64 (y : Nat)] (71 : Nat))).drew := ⟨_, rfl⟩
   have hbV : Below W.heap.size W V := by rw [hV]; exact (bZ W _).drew
   have hkV : C3 V W.heap.size (.int .i64 (t : Nat)) (.int .i64 (s : Nat)) (.int .u64 (y : Nat)) := by rw [hV]; exact C3.new _ _ _ _ _
   rw [← hV]
   have v0 := cellK c0 hbV
   have hRV := hR.keep hbV
   have hFV := hF.keep hlw hbV
   have hBV : Below w.heap.size w V := hB0.trans (hbV.mono (by omega))
   have hlV : w.heap.size < V.heap.size := Nat.lt_of_lt_of_le hlw hbV.size
   clear hV hHeld hInv hbV hS0 c0 c1 hR hF hb1 hB0 hG1 hG2 hW
   obtain ⟨B9, hB9⟩ : ∃ B9, W.heap.size = B9 := ⟨_, rfl⟩
   rw [hB9] at hkV hg hlw ⊢
   clear hB9
   have hbV1 : Below w.heap.size w V.drew := ⟨hBV.os, hBV.tape, hBV.output, hBV.size, hBV.block⟩
   have hS1 : V.drew.cell? ⟨g, off, none⟩ = some (.int .u64 (x : Nat)) ∧ C3 V.drew B9 (.int .i64 (t : Nat)) (.int .i64 (s : Nat)) (.int .u64 (y : Nat)) ∧ C3 V.drew w.heap.size (.int .i64 0) (.int .i64 0) (.int .u64 0) ∧ F3 V.drew w.heap.size ∧ Below w.heap.size w V.drew ∧ w.heap.size < V.drew.heap.size := ⟨v0, hkV, hRV, hFV, hbV1, hlV⟩
   (try simp only [Exit.inBlock, Exit.then])
   go_wp2_with fail
   refine wp_region_held_drew (S := (fun w' => w'.cell? ⟨g, off, none⟩ = some (.int .u64 (x : Nat)) ∧ C3 w' B9 (.int .i64 (t : Nat)) (.int .i64 (s : Nat)) (.int .u64 (y : Nat)) ∧ C3 w' w.heap.size (.int .i64 0) (.int .i64 0) (.int .u64 0) ∧ F3 w' w.heap.size ∧ Below w.heap.size w w' ∧ w.heap.size < w'.heap.size)) (by kernel_rfl) ?_ (fun hHeld => ?_)
   ·(try dsimp only)
    (first | exact hS1 | (obtain ⟨q0, qC, qR, qF, qB, qS⟩ := hHeld; exact ⟨cellK q0 hb, qC.keep hb, qR.keep hb, qF.keep qS hb, qB.trans (hb.mono (by omega)), Nat.lt_of_lt_of_le qS hb.size⟩))
   refine takeL 0 (v := ?_) rfl (by kernel_rfl) (by kernel_rfl) (by kernel_rfl) (fun _ _ _ h => h) (by rfl) (by assumption) ?_ ?_
   rotate_left
   ·(intro w hSw; (try dsimp only at hSw); (try obtain ⟨p0, ⟨p1, p2, p3⟩, _⟩ := hSw); go_simp <;> with_reducible rfl)
   try simp only [Act.put,sA,sB,sC]
   refine oneL 1 rfl (by kernel_rfl) (fun K hK => ?_)
   go_simp
   (go_at_call 109; (with_reducible refine (hRt.out _).mono ?_); rintro e w8 ⟨rfl, hb⟩)
   refine hK.out _ _ ?_ (fun hHeld2 => ?_)
   ·(try dsimp only)
    (first | exact hS1 | (obtain ⟨q0, qC, qR, qF, qB, qS⟩ := hHeld; exact ⟨cellK q0 hb, qC.keep hb, qR.keep hb, qF.keep qS hb, qB.trans (hb.mono (by omega)), Nat.lt_of_lt_of_le qS hb.size⟩))
   clear hK K hHeld
   have hHeld := hHeld2
   clear hHeld2
   try simp only [Act.put,sA,sB,sC]
   refine takeL 2 (v := ?_) rfl (by kernel_rfl) (by kernel_rfl) (by kernel_rfl) (fun _ _ _ h => h) (by rfl) (by assumption) ?_ ?_
   rotate_left
   ·(intro w hSw; (try dsimp only at hSw); (try obtain ⟨p0, ⟨p1, p2, p3⟩, _⟩ := hSw); go_simp <;> with_reducible rfl)
   try simp only [Act.put,sA,sB,sC]
   refine takeL 3 (v := ?_) rfl (by kernel_rfl) (by kernel_rfl) (by kernel_rfl) (fun _ _ _ h => h) (by rfl) (by assumption) ?_ ?_
   rotate_left
   ·(intro w hSw; (try dsimp only at hSw); (try obtain ⟨p0, ⟨p1, p2, p3⟩, _⟩ := hSw); go_simp <;> with_reducible rfl)
   try simp only [Act.put,sA,sB,sC]
   refine takeL 4 (v := ?_) rfl (by kernel_rfl) (by kernel_rfl) (by kernel_rfl) (fun _ _ _ h => h) (by rfl) (by assumption) ?_ ?_
   rotate_left
   ·(intro w hSw; (try dsimp only at hSw); (try obtain ⟨p0, ⟨p1, p2, p3⟩, _⟩ := hSw); go_simp <;> with_reducible rfl)
   try simp only [Act.put,sA,sB,sC]
   refine takeL 6 (v := ?_) rfl (by kernel_rfl) (by kernel_rfl) (by kernel_rfl) (fun _ _ _ h => h) (by rfl) (by assumption) ?_ ?_
   rotate_left
   ·(intro w hSw; (try dsimp only at hSw); (try obtain ⟨p0, ⟨p1, p2, p3⟩, _⟩ := hSw); go_simp <;> with_reducible rfl)
   try simp only [Act.put,sA,sB,sC]
   refine takeL 7 (v := ?_) rfl (by kernel_rfl) (by kernel_rfl) (by kernel_rfl) (fun _ _ _ h => h) (by rfl) (by assumption) ?_ ?_
   rotate_left
   ·(intro w hSw; (try dsimp only at hSw); (try obtain ⟨p0, ⟨p1, p2, p3⟩, _⟩ := hSw); go_simp <;> with_reducible rfl)
   try simp only [Act.put,sA,sB,sC]
   refine takeL 8 (v := ?_) rfl (by kernel_rfl) (by kernel_rfl) (by kernel_rfl) (fun _ _ _ h => h) (by rfl) (by assumption) ?_ ?_
   rotate_left
   ·(intro w hSw; (try dsimp only at hSw); (try obtain ⟨p0, ⟨p1, p2, p3⟩, _⟩ := hSw); go_simp <;> with_reducible rfl)
   try simp only [Act.put,sA,sB,sC]
   refine oneL 5 rfl (by kernel_rfl) (fun K hK => ?_)
   go_simp
   (go_at_call 110; (with_reducible refine (hFs.out _).mono ?_); rintro e w8 ⟨rfl, hb⟩)
   refine hK.out _ _ ?_ (fun hHeld2 => ?_)
   ·(try dsimp only)
    (first | exact hS1 | (obtain ⟨q0, qC, qR, qF, qB, qS⟩ := hHeld; exact ⟨cellK q0 hb, qC.keep hb, qR.keep hb, qF.keep qS hb, qB.trans (hb.mono (by omega)), Nat.lt_of_lt_of_le qS hb.size⟩))
   clear hK K hHeld
   have hHeld := hHeld2
   clear hHeld2
   try simp only [Act.put,sA,sB,sC]
   refine takeL 9 (v := ?_) rfl (by kernel_rfl) (by kernel_rfl) (by kernel_rfl) (fun _ _ _ h => h) (by rfl) (by assumption) ?_ ?_
   rotate_left
   ·(intro w hSw; (try dsimp only at hSw); (try obtain ⟨p0, ⟨p1, p2, p3⟩, _⟩ := hSw); go_simp <;> with_reducible rfl)
   try simp only [Act.put,sA,sB,sC]
   refine takeL 10 (v := ?_) rfl (by kernel_rfl) (by kernel_rfl) (by kernel_rfl) (fun _ _ _ h => h) (by rfl) (by assumption) ?_ ?_
   rotate_left
   ·(intro w hSw; (try dsimp only at hSw); (try obtain ⟨p0, ⟨p1, p2, p3⟩, _⟩ := hSw); go_simp <;> with_reducible rfl)
   try simp only [Act.put,sA,sB,sC]
   refine wpAnyH_done (by kernel_rfl) ?_ _
   obtain ⟨q0, ⟨m0, m1, m2⟩, ⟨d0, d1, d2⟩, ⟨f0, f1, f2⟩, qB, qS⟩ := hHeld
   (try simp only [Exit.inBlock, Exit.then])
   go_wp2_with fail
   (try simp only [Exit.inBlock, Exit.then])
   obtain ⟨w5, h5, ⟨t0, t1, t2⟩, hb5⟩ := st3_ex qB (Nat.le_refl _) d0 d1 d2 (t : Nat) (s : Nat) (y : Nat)
   rw [← h5]
   refine bodyPost_ret (v := .tuple #[nV (t : Nat) (s : Nat) (y : Nat), .bool true]) (by simp [nV, results, Tryz.results86, go_sem, t0, t1, t2]) rfl ⟨rfl, hb5⟩
 ·go_simp
  skip
  refine hK.out _ _ ?_ (fun hHeld2 hInv2 => ?_)
  ·(try dsimp only)
   (first | exact hS0 | exact hHeld | (obtain ⟨q0, q1, qR, qF, qB, qS⟩ := hHeld; have hb := bZ W.drew (.cells #[.int .i64 0, .int .i64 0, .int .u64 0] 71); exact ⟨cellK q0 hb, cellK q1 hb, qR.keep hb, qF.keep qS hb, qB.trans (hb.mono (by omega)), Nat.lt_of_lt_of_le qS hb.size⟩))
  clear hK K hHeld hInv
  have hHeld := hHeld2
  have hInv := hInv2
  clear hHeld2 hInv2
  try simp only [Act.put,sA,sB,sC] at hInv ⊢
  refine oneS 3 hInv (by decide) rfl (by kernel_rfl) (fun K hK => ?_)
  go_simp
  (go_at_call 101; (with_reducible refine (hG1.out _).mono ?_); rintro e w8 ⟨rfl, rfl⟩)
  refine hK.out _ _ ?_ (fun hHeld2 hInv2 => ?_)
  ·(try dsimp only)
   (first | exact hS0 | exact hHeld | (obtain ⟨q0, q1, qR, qF, qB, qS⟩ := hHeld; have hb := bZ W.drew (.cells #[.int .i64 0, .int .i64 0, .int .u64 0] 71); exact ⟨cellK q0 hb, cellK q1 hb, qR.keep hb, qF.keep qS hb, qB.trans (hb.mono (by omega)), Nat.lt_of_lt_of_le qS hb.size⟩))
  clear hK K hHeld hInv
  have hHeld := hHeld2
  have hInv := hInv2
  clear hHeld2 hInv2
  try simp only [Act.put,sA,sB,sC] at hInv ⊢
  refine takeVS 4 hInv ?_; clear hInv; intro hInv
  refine oneS 8 hInv (by decide) rfl (by kernel_rfl) (fun K hK => ?_)
  go_simp
  (go_at_call 101; (with_reducible refine (hG2.out _).mono ?_); rintro e w8 ⟨rfl, rfl⟩)
  refine hK.out _ _ ?_ (fun hHeld2 hInv2 => ?_)
  ·(try dsimp only)
   (first | exact hS0 | exact hHeld | (obtain ⟨q0, q1, qR, qF, qB, qS⟩ := hHeld; have hb := bZ W.drew (.cells #[.int .i64 0, .int .i64 0, .int .u64 0] 71); exact ⟨cellK q0 hb, cellK q1 hb, qR.keep hb, qF.keep qS hb, qB.trans (hb.mono (by omega)), Nat.lt_of_lt_of_le qS hb.size⟩))
  clear hK K hHeld hInv
  have hHeld := hHeld2
  have hInv := hInv2
  clear hHeld2 hInv2
  try simp only [Act.put,sA,sB,sC] at hInv ⊢
  refine takeVS 9 hInv ?_; clear hInv; intro hInv
  refine takeVS 13 hInv ?_; clear hInv; intro hInv
  refine lastS 15 rfl (by decide) (by kernel_rfl) (fun K hK => ?_)
  go_simp
  refine hK.out _ _ ?_
  clear hK K
  try simp only [Act.put,sA,sB,sC]
  refine wpAnyS_done (by kernel_rfl) ?_ _
  obtain ⟨V, hV⟩ : ∃ V : World, V = (W.alloc (.cells #[.int .i64 (t : Nat), .int .i64 (s : Nat), .int .u64 (y : Nat)] (71 : Nat))).drew := ⟨_, rfl⟩
  have hbV : Below W.heap.size W V := by rw [hV]; exact (bZ W _).drew
  have hkV : C3 V W.heap.size (.int .i64 (t : Nat)) (.int .i64 (s : Nat)) (.int .u64 (y : Nat)) := by rw [hV]; exact C3.new _ _ _ _ _
  rw [← hV]
  have v0 := cellK c0 hbV
  have hRV := hR.keep hbV
  have hFV := hF.keep hlw hbV
  have hBV : Below w.heap.size w V := hB0.trans (hbV.mono (by omega))
  have hlV : w.heap.size < V.heap.size := Nat.lt_of_lt_of_le hlw hbV.size
  clear hV hHeld hInv hbV hS0 c0 c1 hR hF hb1 hB0 hG1 hG2 hW
  obtain ⟨B9, hB9⟩ : ∃ B9, W.heap.size = B9 := ⟨_, rfl⟩
  rw [hB9] at hkV hg hlw ⊢
  clear hB9
  have hbV1 : Below w.heap.size w V.drew := ⟨hBV.os, hBV.tape, hBV.output, hBV.size, hBV.block⟩
  have hS1 : V.drew.cell? ⟨g, off, none⟩ = some (.int .u64 (x : Nat)) ∧ C3 V.drew B9 (.int .i64 (t : Nat)) (.int .i64 (s : Nat)) (.int .u64 (y : Nat)) ∧ C3 V.drew w.heap.size (.int .i64 0) (.int .i64 0) (.int .u64 0) ∧ F3 V.drew w.heap.size ∧ Below w.heap.size w V.drew ∧ w.heap.size < V.drew.heap.size := ⟨v0, hkV, hRV, hFV, hbV1, hlV⟩
  (try simp only [Exit.inBlock, Exit.then])
  go_wp2_with fail
  refine wp_region_held_drew (S := (fun w' => w'.cell? ⟨g, off, none⟩ = some (.int .u64 (x : Nat)) ∧ C3 w' B9 (.int .i64 (t : Nat)) (.int .i64 (s : Nat)) (.int .u64 (y : Nat)) ∧ C3 w' w.heap.size (.int .i64 0) (.int .i64 0) (.int .u64 0) ∧ F3 w' w.heap.size ∧ Below w.heap.size w w' ∧ w.heap.size < w'.heap.size)) (by kernel_rfl) ?_ (fun hHeld => ?_)
  ·(try dsimp only)
   (first | exact hS1 | (obtain ⟨q0, qC, qR, qF, qB, qS⟩ := hHeld; exact ⟨cellK q0 hb, qC.keep hb, qR.keep hb, qF.keep qS hb, qB.trans (hb.mono (by omega)), Nat.lt_of_lt_of_le qS hb.size⟩))
  refine takeL 0 (v := ?_) rfl (by kernel_rfl) (by kernel_rfl) (by kernel_rfl) (fun _ _ _ h => h) (by rfl) (by assumption) ?_ ?_
  rotate_left
  ·(intro w hSw; (try dsimp only at hSw); (try obtain ⟨p0, ⟨p1, p2, p3⟩, _⟩ := hSw); go_simp <;> with_reducible rfl)
  try simp only [Act.put,sA,sB,sC]
  refine oneL 1 rfl (by kernel_rfl) (fun K hK => ?_)
  go_simp
  (go_at_call 109; (with_reducible refine (hRt.out _).mono ?_); rintro e w8 ⟨rfl, hb⟩)
  refine hK.out _ _ ?_ (fun hHeld2 => ?_)
  ·(try dsimp only)
   (first | exact hS1 | (obtain ⟨q0, qC, qR, qF, qB, qS⟩ := hHeld; exact ⟨cellK q0 hb, qC.keep hb, qR.keep hb, qF.keep qS hb, qB.trans (hb.mono (by omega)), Nat.lt_of_lt_of_le qS hb.size⟩))
  clear hK K hHeld
  have hHeld := hHeld2
  clear hHeld2
  try simp only [Act.put,sA,sB,sC]
  refine takeL 2 (v := ?_) rfl (by kernel_rfl) (by kernel_rfl) (by kernel_rfl) (fun _ _ _ h => h) (by rfl) (by assumption) ?_ ?_
  rotate_left
  ·(intro w hSw; (try dsimp only at hSw); (try obtain ⟨p0, ⟨p1, p2, p3⟩, _⟩ := hSw); go_simp <;> with_reducible rfl)
  try simp only [Act.put,sA,sB,sC]
  refine takeL 3 (v := ?_) rfl (by kernel_rfl) (by kernel_rfl) (by kernel_rfl) (fun _ _ _ h => h) (by rfl) (by assumption) ?_ ?_
  rotate_left
  ·(intro w hSw; (try dsimp only at hSw); (try obtain ⟨p0, ⟨p1, p2, p3⟩, _⟩ := hSw); go_simp <;> with_reducible rfl)
  try simp only [Act.put,sA,sB,sC]
  refine takeL 4 (v := ?_) rfl (by kernel_rfl) (by kernel_rfl) (by kernel_rfl) (fun _ _ _ h => h) (by rfl) (by assumption) ?_ ?_
  rotate_left
  ·(intro w hSw; (try dsimp only at hSw); (try obtain ⟨p0, ⟨p1, p2, p3⟩, _⟩ := hSw); go_simp <;> with_reducible rfl)
  try simp only [Act.put,sA,sB,sC]
  refine takeL 6 (v := ?_) rfl (by kernel_rfl) (by kernel_rfl) (by kernel_rfl) (fun _ _ _ h => h) (by rfl) (by assumption) ?_ ?_
  rotate_left
  ·(intro w hSw; (try dsimp only at hSw); (try obtain ⟨p0, ⟨p1, p2, p3⟩, _⟩ := hSw); go_simp <;> with_reducible rfl)
  try simp only [Act.put,sA,sB,sC]
  refine takeL 7 (v := ?_) rfl (by kernel_rfl) (by kernel_rfl) (by kernel_rfl) (fun _ _ _ h => h) (by rfl) (by assumption) ?_ ?_
  rotate_left
  ·(intro w hSw; (try dsimp only at hSw); (try obtain ⟨p0, ⟨p1, p2, p3⟩, _⟩ := hSw); go_simp <;> with_reducible rfl)
  try simp only [Act.put,sA,sB,sC]
  refine takeL 8 (v := ?_) rfl (by kernel_rfl) (by kernel_rfl) (by kernel_rfl) (fun _ _ _ h => h) (by rfl) (by assumption) ?_ ?_
  rotate_left
  ·(intro w hSw; (try dsimp only at hSw); (try obtain ⟨p0, ⟨p1, p2, p3⟩, _⟩ := hSw); go_simp <;> with_reducible rfl)
  try simp only [Act.put,sA,sB,sC]
  refine oneL 5 rfl (by kernel_rfl) (fun K hK => ?_)
  go_simp
  (go_at_call 110; (with_reducible refine (hFs.out _).mono ?_); rintro e w8 ⟨rfl, hb⟩)
  refine hK.out _ _ ?_ (fun hHeld2 => ?_)
  ·(try dsimp only)
   (first | exact hS1 | (obtain ⟨q0, qC, qR, qF, qB, qS⟩ := hHeld; exact ⟨cellK q0 hb, qC.keep hb, qR.keep hb, qF.keep qS hb, qB.trans (hb.mono (by omega)), Nat.lt_of_lt_of_le qS hb.size⟩))
  clear hK K hHeld
  have hHeld := hHeld2
  clear hHeld2
  try simp only [Act.put,sA,sB,sC]
  refine takeL 9 (v := ?_) rfl (by kernel_rfl) (by kernel_rfl) (by kernel_rfl) (fun _ _ _ h => h) (by rfl) (by assumption) ?_ ?_
  rotate_left
  ·(intro w hSw; (try dsimp only at hSw); (try obtain ⟨p0, ⟨p1, p2, p3⟩, _⟩ := hSw); go_simp <;> with_reducible rfl)
  try simp only [Act.put,sA,sB,sC]
  refine takeL 10 (v := ?_) rfl (by kernel_rfl) (by kernel_rfl) (by kernel_rfl) (fun _ _ _ h => h) (by rfl) (by assumption) ?_ ?_
  rotate_left
  ·(intro w hSw; (try dsimp only at hSw); (try obtain ⟨p0, ⟨p1, p2, p3⟩, _⟩ := hSw); go_simp <;> with_reducible rfl)
  try simp only [Act.put,sA,sB,sC]
  refine wpAnyH_done (by kernel_rfl) ?_ _
  obtain ⟨q0, ⟨m0, m1, m2⟩, ⟨d0, d1, d2⟩, ⟨f0, f1, f2⟩, qB, qS⟩ := hHeld
  (try simp only [Exit.inBlock, Exit.then])
  go_wp2_with fail
  (try simp only [Exit.inBlock, Exit.then])
  obtain ⟨w5, h5, ⟨t0, t1, t2⟩, hb5⟩ := st3_ex qB (Nat.le_refl _) d0 d1 d2 (t : Nat) (s : Nat) (y : Nat)
  rw [← h5]
  refine bodyPost_ret (v := .tuple #[nV (t : Nat) (s : Nat) (y : Nat), .bool true]) (by simp [nV, results, Tryz.results86, go_sem, t0, t1, t2]) rfl ⟨rfl, hb5⟩
theorem decode_sign (v : Value) (l : List Nat) (x y : Nat) (w : World) (hv : KL .u64 w v l) (h2 : ¬ l.length < 2) (hx : l.getD 0 0 = x) (hy : l.getD 1 0 = y) (hx64 : x < 18446744073709551616) (t s : Nat) (ht : x % 65536 = t) (hs : x / 65536 % 65536 = s) (hr : hdB t s y = true) (z : Nat) (hz : hdW t s = z) (hsg : ¬ z = x) :
 Calls Tryz.prog 86 #[v] w fun e w' => e = .returned (.tuple #[nV 0 0 0, .bool false]) ∧ Below w.heap.size w w' := by
 obtain ⟨n, hn⟩ : ∃ n, l.length = n := ⟨_, rfl⟩
 obtain ⟨A, cap, rfl, hC⟩ := hv.form hn
 rw [hn] at h2
 have h2' : ¬ (n : Int) < 2 := by omega
 have hB0 : Below w.heap.size w (w.alloc (.cells #[.int .i64 0, .int .i64 0, .int .u64 0] 71)) := bZ _ _
 obtain ⟨g, off, rfl, hcap, hg, c0⟩ := hC (w.alloc (.cells #[.int .i64 0, .int .i64 0, .int .u64 0] 71)) 0 hB0 (by omega)
 obtain ⟨g', off', he, _, _, c1⟩ := hC (w.alloc (.cells #[.int .i64 0, .int .i64 0, .int .u64 0] 71)) 1 hB0 (by omega)
 cases he
 rw [hx, Nat.add_zero] at c0
 rw [hy] at c1
 have hG1 := lh (fun w => show Calls Tryz.prog 101 #[.int .u64 (x : Nat), .int .i64 0, .int .i64 16] w fun e w' => e = .returned (.int .u64 (t : Nat)) ∧ w' = w from (get_yes (x : Nat) 0 16 w (by omega) (by omega) (by omega) (by omega) (by omega) (by omega)).mono fun e w' ⟨he, hw⟩ => ⟨by rw [he, gI1, ht], hw.symm⟩)
 have hG2 := lh (fun w => show Calls Tryz.prog 101 #[.int .u64 (x : Nat), .int .i64 16, .int .i64 16] w fun e w' => e = .returned (.int .u64 (s : Nat)) ∧ w' = w from (get_yes (x : Nat) 16 16 w (by omega) (by omega) (by omega) (by omega) (by omega) (by omega)).mono fun e w' ⟨he, hw⟩ => ⟨by rw [he, gI2, hs], hw.symm⟩)
 have hRt := lh (fun w => right_any_oc t s y w (by omega))
 have e1 : IntKind.i64.wrap (t : Int) = (t : Int) := by rw [IntKind.wrap_i64]; omega
 have e2 : IntKind.i64.wrap (s : Int) = (s : Int) := by rw [IntKind.wrap_i64]; omega
 have hFs := lh (fun w => first_any_oc t s y w (by omega) (by omega))
 rw [hz] at hFs
 rw [hr] at hRt
 have u1 : ((z : Int) == (x : Int)) = false := by rw [beq_eq_false_iff_ne]; omega
 have u2 : ((z : Int) != (x : Int)) = true := by rw [bne_iff_ne]; omega
 have u3 : ¬ (z : Int) = (x : Int) := by omega
 (try unfold nV at hRt)
 (try unfold nV at hFs)
 have hR := C3.new w (.int .i64 0) (.int .i64 0) (.int .u64 0) 71
 have hF := F3.new w (.int .i64 0) (.int .i64 0) (.int .u64 0) 71
 have i0 : (0 : Int) < (n : Int) := by omega
 have i1 : (1 : Int) < (n : Int) := by omega
 have j0 : 0 < n := by omega
 have j1 : 1 < n := by omega
 clear hC hv hn hx hy ht hs hcap hx64
 go_enter Tryz.func86, Tryz.ntmps86
 generalize hW : w.alloc (.cells #[.int .i64 0, .int .i64 0, .int .u64 0] 71) = W at *
 have hlw := hR.lt
 have hb1 : Below w.heap.size w W.drew := ⟨hB0.os, hB0.tape, hB0.output, hB0.size, hB0.block⟩
 have hS0 : W.drew.cell? ⟨g, off, none⟩ = some (.int .u64 (x : Nat)) ∧ W.drew.cell? ⟨g, off + 1, none⟩ = some (.int .u64 (y : Nat)) ∧ C3 W.drew w.heap.size (.int .i64 0) (.int .i64 0) (.int .u64 0) ∧ F3 W.drew w.heap.size ∧ Below w.heap.size w W.drew ∧ w.heap.size < W.drew.heap.size := ⟨c0, c1, hR, hF, hb1, hlw⟩
 go_wp2_with fail
 try rw [hW]
 refine wp_region_tail (S := (fun w' => w'.cell? ⟨g, off, none⟩ = some (.int .u64 (x : Nat)) ∧ w'.cell? ⟨g, off + 1, none⟩ = some (.int .u64 (y : Nat)) ∧ C3 w' w.heap.size (.int .i64 0) (.int .i64 0) (.int .u64 0) ∧ F3 w' w.heap.size ∧ Below w.heap.size w w' ∧ w.heap.size < w'.heap.size)) (n := 15) (by kernel_rfl) ?_ (fun hHeld hInv => ?_) (by decide)
 ·(try dsimp only)
  (first | exact hS0 | exact hHeld | (obtain ⟨q0, q1, qR, qF, qB, qS⟩ := hHeld; have hb := bZ W.drew (.cells #[.int .i64 0, .int .i64 0, .int .u64 0] 71); exact ⟨cellK q0 hb, cellK q1 hb, qR.keep hb, qF.keep qS hb, qB.trans (hb.mono (by omega)), Nat.lt_of_lt_of_le qS hb.size⟩))
 refine takeVS 0 hInv ?_; clear hInv; intro hInv
 refine takeVS 1 hInv ?_; clear hInv; intro hInv
 refine takeVS 2 hInv ?_; clear hInv; intro hInv
 refine takeVS 5 hInv ?_; clear hInv; intro hInv
 refine takeVS 6 hInv ?_; clear hInv; intro hInv
 refine takeVS 7 hInv ?_; clear hInv; intro hInv
 refine takeVS 10 hInv ?_; clear hInv; intro hInv
 refine takeVS 11 hInv ?_; clear hInv; intro hInv
 refine takeVS 12 hInv ?_; clear hInv; intro hInv
 refine twoS 3 14 hInv (by decide) (by decide) rfl rfl (by kernel_rfl) (fun K hK => ?_) (fun K hK => ?_)
 ·go_simp
  (go_at_call 101; (with_reducible refine (hG1.out _).mono ?_); rintro e w8 ⟨rfl, rfl⟩)
  refine hK.out _ _ ?_ (fun hHeld2 hInv2 => ?_)
  ·(try dsimp only)
   (first | exact hS0 | exact hHeld | (obtain ⟨q0, q1, qR, qF, qB, qS⟩ := hHeld; have hb := bZ W.drew (.cells #[.int .i64 0, .int .i64 0, .int .u64 0] 71); exact ⟨cellK q0 hb, cellK q1 hb, qR.keep hb, qF.keep qS hb, qB.trans (hb.mono (by omega)), Nat.lt_of_lt_of_le qS hb.size⟩))
  clear hK K hHeld hInv
  have hHeld := hHeld2
  have hInv := hInv2
  clear hHeld2 hInv2
  try simp only [Act.put,sA,sB,sC] at hInv ⊢
  refine takeVS 4 hInv ?_; clear hInv; intro hInv
  refine twoS 8 14 hInv (by decide) (by decide) rfl rfl (by kernel_rfl) (fun K hK => ?_) (fun K hK => ?_)
  ·go_simp
   (go_at_call 101; (with_reducible refine (hG2.out _).mono ?_); rintro e w8 ⟨rfl, rfl⟩)
   refine hK.out _ _ ?_ (fun hHeld2 hInv2 => ?_)
   ·(try dsimp only)
    (first | exact hS0 | exact hHeld | (obtain ⟨q0, q1, qR, qF, qB, qS⟩ := hHeld; have hb := bZ W.drew (.cells #[.int .i64 0, .int .i64 0, .int .u64 0] 71); exact ⟨cellK q0 hb, cellK q1 hb, qR.keep hb, qF.keep qS hb, qB.trans (hb.mono (by omega)), Nat.lt_of_lt_of_le qS hb.size⟩))
   clear hK K hHeld hInv
   have hHeld := hHeld2
   have hInv := hInv2
   clear hHeld2 hInv2
   try simp only [Act.put,sA,sB,sC] at hInv ⊢
   refine takeVS 9 hInv ?_; clear hInv; intro hInv
   refine takeVS 13 hInv ?_; clear hInv; intro hInv
   refine oneS 14 hInv (by decide) rfl (by kernel_rfl) (fun K hK => ?_)
   go_simp
   skip
   refine hK.out _ _ ?_ (fun hHeld2 hInv2 => ?_)
   ·(try dsimp only)
    (first | exact hS0 | exact hHeld | (obtain ⟨q0, q1, qR, qF, qB, qS⟩ := hHeld; have hb := bZ W.drew (.cells #[.int .i64 0, .int .i64 0, .int .u64 0] 71); exact ⟨cellK q0 hb, cellK q1 hb, qR.keep hb, qF.keep qS hb, qB.trans (hb.mono (by omega)), Nat.lt_of_lt_of_le qS hb.size⟩))
   clear hK K hHeld hInv
   have hHeld := hHeld2
   have hInv := hInv2
   clear hHeld2 hInv2
   try simp only [Act.put,sA,sB,sC] at hInv ⊢
   refine lastS 15 rfl (by decide) (by kernel_rfl) (fun K hK => ?_)
   go_simp
   refine hK.out _ _ ?_
   clear hK K
   try simp only [Act.put,sA,sB,sC]
   refine wpAnyS_done (by kernel_rfl) ?_ _
   obtain ⟨V, hV⟩ : ∃ V : World, V = (W.alloc (.cells #[.int .i64 (t : Nat), .int .i64 (s : Nat), .int .u64 (y : Nat)] (71 : Nat))).drew := ⟨_, rfl⟩
   have hbV : Below W.heap.size W V := by rw [hV]; exact (bZ W _).drew
   have hkV : C3 V W.heap.size (.int .i64 (t : Nat)) (.int .i64 (s : Nat)) (.int .u64 (y : Nat)) := by rw [hV]; exact C3.new _ _ _ _ _
   rw [← hV]
   have v0 := cellK c0 hbV
   have hRV := hR.keep hbV
   have hFV := hF.keep hlw hbV
   have hBV : Below w.heap.size w V := hB0.trans (hbV.mono (by omega))
   have hlV : w.heap.size < V.heap.size := Nat.lt_of_lt_of_le hlw hbV.size
   clear hV hHeld hInv hbV hS0 c0 c1 hR hF hb1 hB0 hG1 hG2 hW
   obtain ⟨B9, hB9⟩ : ∃ B9, W.heap.size = B9 := ⟨_, rfl⟩
   rw [hB9] at hkV hg hlw ⊢
   clear hB9
   have hbV1 : Below w.heap.size w V.drew := ⟨hBV.os, hBV.tape, hBV.output, hBV.size, hBV.block⟩
   have hS1 : V.drew.cell? ⟨g, off, none⟩ = some (.int .u64 (x : Nat)) ∧ C3 V.drew B9 (.int .i64 (t : Nat)) (.int .i64 (s : Nat)) (.int .u64 (y : Nat)) ∧ C3 V.drew w.heap.size (.int .i64 0) (.int .i64 0) (.int .u64 0) ∧ F3 V.drew w.heap.size ∧ Below w.heap.size w V.drew ∧ w.heap.size < V.drew.heap.size := ⟨v0, hkV, hRV, hFV, hbV1, hlV⟩
   (try simp only [Exit.inBlock, Exit.then])
   go_wp2_with fail
   refine wp_region_held_drew (S := (fun w' => w'.cell? ⟨g, off, none⟩ = some (.int .u64 (x : Nat)) ∧ C3 w' B9 (.int .i64 (t : Nat)) (.int .i64 (s : Nat)) (.int .u64 (y : Nat)) ∧ C3 w' w.heap.size (.int .i64 0) (.int .i64 0) (.int .u64 0) ∧ F3 w' w.heap.size ∧ Below w.heap.size w w' ∧ w.heap.size < w'.heap.size)) (by kernel_rfl) ?_ (fun hHeld => ?_)
   ·(try dsimp only)
    (first | exact hS1 | (obtain ⟨q0, qC, qR, qF, qB, qS⟩ := hHeld; exact ⟨cellK q0 hb, qC.keep hb, qR.keep hb, qF.keep qS hb, qB.trans (hb.mono (by omega)), Nat.lt_of_lt_of_le qS hb.size⟩))
   refine takeL 0 (v := ?_) rfl (by kernel_rfl) (by kernel_rfl) (by kernel_rfl) (fun _ _ _ h => h) (by rfl) (by assumption) ?_ ?_
   rotate_left
   ·(intro w hSw; (try dsimp only at hSw); (try obtain ⟨p0, ⟨p1, p2, p3⟩, _⟩ := hSw); go_simp <;> with_reducible rfl)
   try simp only [Act.put,sA,sB,sC]
   refine oneL 1 rfl (by kernel_rfl) (fun K hK => ?_)
   go_simp
   (go_at_call 109; (with_reducible refine (hRt.out _).mono ?_); rintro e w8 ⟨rfl, hb⟩)
   refine hK.out _ _ ?_ (fun hHeld2 => ?_)
   ·(try dsimp only)
    (first | exact hS1 | (obtain ⟨q0, qC, qR, qF, qB, qS⟩ := hHeld; exact ⟨cellK q0 hb, qC.keep hb, qR.keep hb, qF.keep qS hb, qB.trans (hb.mono (by omega)), Nat.lt_of_lt_of_le qS hb.size⟩))
   clear hK K hHeld
   have hHeld := hHeld2
   clear hHeld2
   try simp only [Act.put,sA,sB,sC]
   refine takeL 2 (v := ?_) rfl (by kernel_rfl) (by kernel_rfl) (by kernel_rfl) (fun _ _ _ h => h) (by rfl) (by assumption) ?_ ?_
   rotate_left
   ·(intro w hSw; (try dsimp only at hSw); (try obtain ⟨p0, ⟨p1, p2, p3⟩, _⟩ := hSw); go_simp <;> with_reducible rfl)
   try simp only [Act.put,sA,sB,sC]
   refine takeL 3 (v := ?_) rfl (by kernel_rfl) (by kernel_rfl) (by kernel_rfl) (fun _ _ _ h => h) (by rfl) (by assumption) ?_ ?_
   rotate_left
   ·(intro w hSw; (try dsimp only at hSw); (try obtain ⟨p0, ⟨p1, p2, p3⟩, _⟩ := hSw); go_simp <;> with_reducible rfl)
   try simp only [Act.put,sA,sB,sC]
   refine takeL 4 (v := ?_) rfl (by kernel_rfl) (by kernel_rfl) (by kernel_rfl) (fun _ _ _ h => h) (by rfl) (by assumption) ?_ ?_
   rotate_left
   ·(intro w hSw; (try dsimp only at hSw); (try obtain ⟨p0, ⟨p1, p2, p3⟩, _⟩ := hSw); go_simp <;> with_reducible rfl)
   try simp only [Act.put,sA,sB,sC]
   refine takeL 6 (v := ?_) rfl (by kernel_rfl) (by kernel_rfl) (by kernel_rfl) (fun _ _ _ h => h) (by rfl) (by assumption) ?_ ?_
   rotate_left
   ·(intro w hSw; (try dsimp only at hSw); (try obtain ⟨p0, ⟨p1, p2, p3⟩, _⟩ := hSw); go_simp <;> with_reducible rfl)
   try simp only [Act.put,sA,sB,sC]
   refine takeL 7 (v := ?_) rfl (by kernel_rfl) (by kernel_rfl) (by kernel_rfl) (fun _ _ _ h => h) (by rfl) (by assumption) ?_ ?_
   rotate_left
   ·(intro w hSw; (try dsimp only at hSw); (try obtain ⟨p0, ⟨p1, p2, p3⟩, _⟩ := hSw); go_simp <;> with_reducible rfl)
   try simp only [Act.put,sA,sB,sC]
   refine takeL 8 (v := ?_) rfl (by kernel_rfl) (by kernel_rfl) (by kernel_rfl) (fun _ _ _ h => h) (by rfl) (by assumption) ?_ ?_
   rotate_left
   ·(intro w hSw; (try dsimp only at hSw); (try obtain ⟨p0, ⟨p1, p2, p3⟩, _⟩ := hSw); go_simp <;> with_reducible rfl)
   try simp only [Act.put,sA,sB,sC]
   refine oneL 5 rfl (by kernel_rfl) (fun K hK => ?_)
   go_simp
   (go_at_call 110; (with_reducible refine (hFs.out _).mono ?_); rintro e w8 ⟨rfl, hb⟩)
   refine hK.out _ _ ?_ (fun hHeld2 => ?_)
   ·(try dsimp only)
    (first | exact hS1 | (obtain ⟨q0, qC, qR, qF, qB, qS⟩ := hHeld; exact ⟨cellK q0 hb, qC.keep hb, qR.keep hb, qF.keep qS hb, qB.trans (hb.mono (by omega)), Nat.lt_of_lt_of_le qS hb.size⟩))
   clear hK K hHeld
   have hHeld := hHeld2
   clear hHeld2
   try simp only [Act.put,sA,sB,sC]
   refine takeL 9 (v := ?_) rfl (by kernel_rfl) (by kernel_rfl) (by kernel_rfl) (fun _ _ _ h => h) (by rfl) (by assumption) ?_ ?_
   rotate_left
   ·(intro w hSw; (try dsimp only at hSw); (try obtain ⟨p0, ⟨p1, p2, p3⟩, _⟩ := hSw); go_simp <;> with_reducible rfl)
   try simp only [Act.put,sA,sB,sC]
   refine takeL 10 (v := ?_) rfl (by kernel_rfl) (by kernel_rfl) (by kernel_rfl) (fun _ _ _ h => h) (by rfl) (by assumption) ?_ ?_
   rotate_left
   ·(intro w hSw; (try dsimp only at hSw); (try obtain ⟨p0, ⟨p1, p2, p3⟩, _⟩ := hSw); go_simp <;> with_reducible rfl)
   try simp only [Act.put,sA,sB,sC]
   refine wpAnyH_done (by kernel_rfl) ?_ _
   obtain ⟨q0, ⟨m0, m1, m2⟩, ⟨d0, d1, d2⟩, ⟨f0, f1, f2⟩, qB, qS⟩ := hHeld
   (try simp only [Exit.inBlock, Exit.then])
   go_wp2_with fail
   (try simp only [Exit.inBlock, Exit.then])
   obtain ⟨w5, h5, ⟨t0, t1, t2⟩, hb5⟩ := st3_ex qB (Nat.le_refl _) d0 d1 d2 0 0 0
   rw [← h5]
   refine bodyPost_ret (v := .tuple #[nV 0 0 0, .bool false]) (by simp [nV, results, Tryz.results86, go_sem, t0, t1, t2]) rfl ⟨rfl, hb5⟩
  ·go_simp
   skip
   refine hK.out _ _ ?_ (fun hHeld2 hInv2 => ?_)
   ·(try dsimp only)
    (first | exact hS0 | exact hHeld | (obtain ⟨q0, q1, qR, qF, qB, qS⟩ := hHeld; have hb := bZ W.drew (.cells #[.int .i64 0, .int .i64 0, .int .u64 0] 71); exact ⟨cellK q0 hb, cellK q1 hb, qR.keep hb, qF.keep qS hb, qB.trans (hb.mono (by omega)), Nat.lt_of_lt_of_le qS hb.size⟩))
   clear hK K hHeld hInv
   have hHeld := hHeld2
   have hInv := hInv2
   clear hHeld2 hInv2
   try simp only [Act.put,sA,sB,sC] at hInv ⊢
   refine oneS 8 hInv (by decide) rfl (by kernel_rfl) (fun K hK => ?_)
   go_simp
   (go_at_call 101; (with_reducible refine (hG2.out _).mono ?_); rintro e w8 ⟨rfl, rfl⟩)
   refine hK.out _ _ ?_ (fun hHeld2 hInv2 => ?_)
   ·(try dsimp only)
    (first | exact hS0 | exact hHeld | (obtain ⟨q0, q1, qR, qF, qB, qS⟩ := hHeld; have hb := bZ W.drew (.cells #[.int .i64 0, .int .i64 0, .int .u64 0] 71); exact ⟨cellK q0 hb, cellK q1 hb, qR.keep hb, qF.keep qS hb, qB.trans (hb.mono (by omega)), Nat.lt_of_lt_of_le qS hb.size⟩))
   clear hK K hHeld hInv
   have hHeld := hHeld2
   have hInv := hInv2
   clear hHeld2 hInv2
   try simp only [Act.put,sA,sB,sC] at hInv ⊢
   refine takeVS 9 hInv ?_; clear hInv; intro hInv
   refine takeVS 13 hInv ?_; clear hInv; intro hInv
   refine lastS 15 rfl (by decide) (by kernel_rfl) (fun K hK => ?_)
   go_simp
   refine hK.out _ _ ?_
   clear hK K
   try simp only [Act.put,sA,sB,sC]
   refine wpAnyS_done (by kernel_rfl) ?_ _
   obtain ⟨V, hV⟩ : ∃ V : World, V = (W.alloc (.cells #[.int .i64 (t : Nat), .int .i64 (s : Nat), .int .u64 (y : Nat)] (71 : Nat))).drew := ⟨_, rfl⟩
   have hbV : Below W.heap.size W V := by rw [hV]; exact (bZ W _).drew
   have hkV : C3 V W.heap.size (.int .i64 (t : Nat)) (.int .i64 (s : Nat)) (.int .u64 (y : Nat)) := by rw [hV]; exact C3.new _ _ _ _ _
   rw [← hV]
   have v0 := cellK c0 hbV
   have hRV := hR.keep hbV
   have hFV := hF.keep hlw hbV
   have hBV : Below w.heap.size w V := hB0.trans (hbV.mono (by omega))
   have hlV : w.heap.size < V.heap.size := Nat.lt_of_lt_of_le hlw hbV.size
   clear hV hHeld hInv hbV hS0 c0 c1 hR hF hb1 hB0 hG1 hG2 hW
   obtain ⟨B9, hB9⟩ : ∃ B9, W.heap.size = B9 := ⟨_, rfl⟩
   rw [hB9] at hkV hg hlw ⊢
   clear hB9
   have hbV1 : Below w.heap.size w V.drew := ⟨hBV.os, hBV.tape, hBV.output, hBV.size, hBV.block⟩
   have hS1 : V.drew.cell? ⟨g, off, none⟩ = some (.int .u64 (x : Nat)) ∧ C3 V.drew B9 (.int .i64 (t : Nat)) (.int .i64 (s : Nat)) (.int .u64 (y : Nat)) ∧ C3 V.drew w.heap.size (.int .i64 0) (.int .i64 0) (.int .u64 0) ∧ F3 V.drew w.heap.size ∧ Below w.heap.size w V.drew ∧ w.heap.size < V.drew.heap.size := ⟨v0, hkV, hRV, hFV, hbV1, hlV⟩
   (try simp only [Exit.inBlock, Exit.then])
   go_wp2_with fail
   refine wp_region_held_drew (S := (fun w' => w'.cell? ⟨g, off, none⟩ = some (.int .u64 (x : Nat)) ∧ C3 w' B9 (.int .i64 (t : Nat)) (.int .i64 (s : Nat)) (.int .u64 (y : Nat)) ∧ C3 w' w.heap.size (.int .i64 0) (.int .i64 0) (.int .u64 0) ∧ F3 w' w.heap.size ∧ Below w.heap.size w w' ∧ w.heap.size < w'.heap.size)) (by kernel_rfl) ?_ (fun hHeld => ?_)
   ·(try dsimp only)
    (first | exact hS1 | (obtain ⟨q0, qC, qR, qF, qB, qS⟩ := hHeld; exact ⟨cellK q0 hb, qC.keep hb, qR.keep hb, qF.keep qS hb, qB.trans (hb.mono (by omega)), Nat.lt_of_lt_of_le qS hb.size⟩))
   refine takeL 0 (v := ?_) rfl (by kernel_rfl) (by kernel_rfl) (by kernel_rfl) (fun _ _ _ h => h) (by rfl) (by assumption) ?_ ?_
   rotate_left
   ·(intro w hSw; (try dsimp only at hSw); (try obtain ⟨p0, ⟨p1, p2, p3⟩, _⟩ := hSw); go_simp <;> with_reducible rfl)
   try simp only [Act.put,sA,sB,sC]
   refine oneL 1 rfl (by kernel_rfl) (fun K hK => ?_)
   go_simp
   (go_at_call 109; (with_reducible refine (hRt.out _).mono ?_); rintro e w8 ⟨rfl, hb⟩)
   refine hK.out _ _ ?_ (fun hHeld2 => ?_)
   ·(try dsimp only)
    (first | exact hS1 | (obtain ⟨q0, qC, qR, qF, qB, qS⟩ := hHeld; exact ⟨cellK q0 hb, qC.keep hb, qR.keep hb, qF.keep qS hb, qB.trans (hb.mono (by omega)), Nat.lt_of_lt_of_le qS hb.size⟩))
   clear hK K hHeld
   have hHeld := hHeld2
   clear hHeld2
   try simp only [Act.put,sA,sB,sC]
   refine takeL 2 (v := ?_) rfl (by kernel_rfl) (by kernel_rfl) (by kernel_rfl) (fun _ _ _ h => h) (by rfl) (by assumption) ?_ ?_
   rotate_left
   ·(intro w hSw; (try dsimp only at hSw); (try obtain ⟨p0, ⟨p1, p2, p3⟩, _⟩ := hSw); go_simp <;> with_reducible rfl)
   try simp only [Act.put,sA,sB,sC]
   refine takeL 3 (v := ?_) rfl (by kernel_rfl) (by kernel_rfl) (by kernel_rfl) (fun _ _ _ h => h) (by rfl) (by assumption) ?_ ?_
   rotate_left
   ·(intro w hSw; (try dsimp only at hSw); (try obtain ⟨p0, ⟨p1, p2, p3⟩, _⟩ := hSw); go_simp <;> with_reducible rfl)
   try simp only [Act.put,sA,sB,sC]
   refine takeL 4 (v := ?_) rfl (by kernel_rfl) (by kernel_rfl) (by kernel_rfl) (fun _ _ _ h => h) (by rfl) (by assumption) ?_ ?_
   rotate_left
   ·(intro w hSw; (try dsimp only at hSw); (try obtain ⟨p0, ⟨p1, p2, p3⟩, _⟩ := hSw); go_simp <;> with_reducible rfl)
   try simp only [Act.put,sA,sB,sC]
   refine takeL 6 (v := ?_) rfl (by kernel_rfl) (by kernel_rfl) (by kernel_rfl) (fun _ _ _ h => h) (by rfl) (by assumption) ?_ ?_
   rotate_left
   ·(intro w hSw; (try dsimp only at hSw); (try obtain ⟨p0, ⟨p1, p2, p3⟩, _⟩ := hSw); go_simp <;> with_reducible rfl)
   try simp only [Act.put,sA,sB,sC]
   refine takeL 7 (v := ?_) rfl (by kernel_rfl) (by kernel_rfl) (by kernel_rfl) (fun _ _ _ h => h) (by rfl) (by assumption) ?_ ?_
   rotate_left
   ·(intro w hSw; (try dsimp only at hSw); (try obtain ⟨p0, ⟨p1, p2, p3⟩, _⟩ := hSw); go_simp <;> with_reducible rfl)
   try simp only [Act.put,sA,sB,sC]
   refine takeL 8 (v := ?_) rfl (by kernel_rfl) (by kernel_rfl) (by kernel_rfl) (fun _ _ _ h => h) (by rfl) (by assumption) ?_ ?_
   rotate_left
   ·(intro w hSw; (try dsimp only at hSw); (try obtain ⟨p0, ⟨p1, p2, p3⟩, _⟩ := hSw); go_simp <;> with_reducible rfl)
   try simp only [Act.put,sA,sB,sC]
   refine oneL 5 rfl (by kernel_rfl) (fun K hK => ?_)
   go_simp
   (go_at_call 110; (with_reducible refine (hFs.out _).mono ?_); rintro e w8 ⟨rfl, hb⟩)
   refine hK.out _ _ ?_ (fun hHeld2 => ?_)
   ·(try dsimp only)
    (first | exact hS1 | (obtain ⟨q0, qC, qR, qF, qB, qS⟩ := hHeld; exact ⟨cellK q0 hb, qC.keep hb, qR.keep hb, qF.keep qS hb, qB.trans (hb.mono (by omega)), Nat.lt_of_lt_of_le qS hb.size⟩))
   clear hK K hHeld
   have hHeld := hHeld2
   clear hHeld2
   try simp only [Act.put,sA,sB,sC]
   refine takeL 9 (v := ?_) rfl (by kernel_rfl) (by kernel_rfl) (by kernel_rfl) (fun _ _ _ h => h) (by rfl) (by assumption) ?_ ?_
   rotate_left
   ·(intro w hSw; (try dsimp only at hSw); (try obtain ⟨p0, ⟨p1, p2, p3⟩, _⟩ := hSw); go_simp <;> with_reducible rfl)
   try simp only [Act.put,sA,sB,sC]
   refine takeL 10 (v := ?_) rfl (by kernel_rfl) (by kernel_rfl) (by kernel_rfl) (fun _ _ _ h => h) (by rfl) (by assumption) ?_ ?_
   rotate_left
   ·(intro w hSw; (try dsimp only at hSw); (try obtain ⟨p0, ⟨p1, p2, p3⟩, _⟩ := hSw); go_simp <;> with_reducible rfl)
   try simp only [Act.put,sA,sB,sC]
   refine wpAnyH_done (by kernel_rfl) ?_ _
   obtain ⟨q0, ⟨m0, m1, m2⟩, ⟨d0, d1, d2⟩, ⟨f0, f1, f2⟩, qB, qS⟩ := hHeld
   (try simp only [Exit.inBlock, Exit.then])
   go_wp2_with fail
   (try simp only [Exit.inBlock, Exit.then])
   obtain ⟨w5, h5, ⟨t0, t1, t2⟩, hb5⟩ := st3_ex qB (Nat.le_refl _) d0 d1 d2 0 0 0
   rw [← h5]
   refine bodyPost_ret (v := .tuple #[nV 0 0 0, .bool false]) (by simp [nV, results, Tryz.results86, go_sem, t0, t1, t2]) rfl ⟨rfl, hb5⟩
 ·go_simp
  skip
  refine hK.out _ _ ?_ (fun hHeld2 hInv2 => ?_)
  ·(try dsimp only)
   (first | exact hS0 | exact hHeld | (obtain ⟨q0, q1, qR, qF, qB, qS⟩ := hHeld; have hb := bZ W.drew (.cells #[.int .i64 0, .int .i64 0, .int .u64 0] 71); exact ⟨cellK q0 hb, cellK q1 hb, qR.keep hb, qF.keep qS hb, qB.trans (hb.mono (by omega)), Nat.lt_of_lt_of_le qS hb.size⟩))
  clear hK K hHeld hInv
  have hHeld := hHeld2
  have hInv := hInv2
  clear hHeld2 hInv2
  try simp only [Act.put,sA,sB,sC] at hInv ⊢
  refine oneS 3 hInv (by decide) rfl (by kernel_rfl) (fun K hK => ?_)
  go_simp
  (go_at_call 101; (with_reducible refine (hG1.out _).mono ?_); rintro e w8 ⟨rfl, rfl⟩)
  refine hK.out _ _ ?_ (fun hHeld2 hInv2 => ?_)
  ·(try dsimp only)
   (first | exact hS0 | exact hHeld | (obtain ⟨q0, q1, qR, qF, qB, qS⟩ := hHeld; have hb := bZ W.drew (.cells #[.int .i64 0, .int .i64 0, .int .u64 0] 71); exact ⟨cellK q0 hb, cellK q1 hb, qR.keep hb, qF.keep qS hb, qB.trans (hb.mono (by omega)), Nat.lt_of_lt_of_le qS hb.size⟩))
  clear hK K hHeld hInv
  have hHeld := hHeld2
  have hInv := hInv2
  clear hHeld2 hInv2
  try simp only [Act.put,sA,sB,sC] at hInv ⊢
  refine takeVS 4 hInv ?_; clear hInv; intro hInv
  refine oneS 8 hInv (by decide) rfl (by kernel_rfl) (fun K hK => ?_)
  go_simp
  (go_at_call 101; (with_reducible refine (hG2.out _).mono ?_); rintro e w8 ⟨rfl, rfl⟩)
  refine hK.out _ _ ?_ (fun hHeld2 hInv2 => ?_)
  ·(try dsimp only)
   (first | exact hS0 | exact hHeld | (obtain ⟨q0, q1, qR, qF, qB, qS⟩ := hHeld; have hb := bZ W.drew (.cells #[.int .i64 0, .int .i64 0, .int .u64 0] 71); exact ⟨cellK q0 hb, cellK q1 hb, qR.keep hb, qF.keep qS hb, qB.trans (hb.mono (by omega)), Nat.lt_of_lt_of_le qS hb.size⟩))
  clear hK K hHeld hInv
  have hHeld := hHeld2
  have hInv := hInv2
  clear hHeld2 hInv2
  try simp only [Act.put,sA,sB,sC] at hInv ⊢
  refine takeVS 9 hInv ?_; clear hInv; intro hInv
  refine takeVS 13 hInv ?_; clear hInv; intro hInv
  refine lastS 15 rfl (by decide) (by kernel_rfl) (fun K hK => ?_)
  go_simp
  refine hK.out _ _ ?_
  clear hK K
  try simp only [Act.put,sA,sB,sC]
  refine wpAnyS_done (by kernel_rfl) ?_ _
  obtain ⟨V, hV⟩ : ∃ V : World, V = (W.alloc (.cells #[.int .i64 (t : Nat), .int .i64 (s : Nat), .int .u64 (y : Nat)] (71 : Nat))).drew := ⟨_, rfl⟩
  have hbV : Below W.heap.size W V := by rw [hV]; exact (bZ W _).drew
  have hkV : C3 V W.heap.size (.int .i64 (t : Nat)) (.int .i64 (s : Nat)) (.int .u64 (y : Nat)) := by rw [hV]; exact C3.new _ _ _ _ _
  rw [← hV]
  have v0 := cellK c0 hbV
  have hRV := hR.keep hbV
  have hFV := hF.keep hlw hbV
  have hBV : Below w.heap.size w V := hB0.trans (hbV.mono (by omega))
  have hlV : w.heap.size < V.heap.size := Nat.lt_of_lt_of_le hlw hbV.size
  clear hV hHeld hInv hbV hS0 c0 c1 hR hF hb1 hB0 hG1 hG2 hW
  obtain ⟨B9, hB9⟩ : ∃ B9, W.heap.size = B9 := ⟨_, rfl⟩
  rw [hB9] at hkV hg hlw ⊢
  clear hB9
  have hbV1 : Below w.heap.size w V.drew := ⟨hBV.os, hBV.tape, hBV.output, hBV.size, hBV.block⟩
  have hS1 : V.drew.cell? ⟨g, off, none⟩ = some (.int .u64 (x : Nat)) ∧ C3 V.drew B9 (.int .i64 (t : Nat)) (.int .i64 (s : Nat)) (.int .u64 (y : Nat)) ∧ C3 V.drew w.heap.size (.int .i64 0) (.int .i64 0) (.int .u64 0) ∧ F3 V.drew w.heap.size ∧ Below w.heap.size w V.drew ∧ w.heap.size < V.drew.heap.size := ⟨v0, hkV, hRV, hFV, hbV1, hlV⟩
  (try simp only [Exit.inBlock, Exit.then])
  go_wp2_with fail
  refine wp_region_held_drew (S := (fun w' => w'.cell? ⟨g, off, none⟩ = some (.int .u64 (x : Nat)) ∧ C3 w' B9 (.int .i64 (t : Nat)) (.int .i64 (s : Nat)) (.int .u64 (y : Nat)) ∧ C3 w' w.heap.size (.int .i64 0) (.int .i64 0) (.int .u64 0) ∧ F3 w' w.heap.size ∧ Below w.heap.size w w' ∧ w.heap.size < w'.heap.size)) (by kernel_rfl) ?_ (fun hHeld => ?_)
  ·(try dsimp only)
   (first | exact hS1 | (obtain ⟨q0, qC, qR, qF, qB, qS⟩ := hHeld; exact ⟨cellK q0 hb, qC.keep hb, qR.keep hb, qF.keep qS hb, qB.trans (hb.mono (by omega)), Nat.lt_of_lt_of_le qS hb.size⟩))
  refine takeL 0 (v := ?_) rfl (by kernel_rfl) (by kernel_rfl) (by kernel_rfl) (fun _ _ _ h => h) (by rfl) (by assumption) ?_ ?_
  rotate_left
  ·(intro w hSw; (try dsimp only at hSw); (try obtain ⟨p0, ⟨p1, p2, p3⟩, _⟩ := hSw); go_simp <;> with_reducible rfl)
  try simp only [Act.put,sA,sB,sC]
  refine oneL 1 rfl (by kernel_rfl) (fun K hK => ?_)
  go_simp
  (go_at_call 109; (with_reducible refine (hRt.out _).mono ?_); rintro e w8 ⟨rfl, hb⟩)
  refine hK.out _ _ ?_ (fun hHeld2 => ?_)
  ·(try dsimp only)
   (first | exact hS1 | (obtain ⟨q0, qC, qR, qF, qB, qS⟩ := hHeld; exact ⟨cellK q0 hb, qC.keep hb, qR.keep hb, qF.keep qS hb, qB.trans (hb.mono (by omega)), Nat.lt_of_lt_of_le qS hb.size⟩))
  clear hK K hHeld
  have hHeld := hHeld2
  clear hHeld2
  try simp only [Act.put,sA,sB,sC]
  refine takeL 2 (v := ?_) rfl (by kernel_rfl) (by kernel_rfl) (by kernel_rfl) (fun _ _ _ h => h) (by rfl) (by assumption) ?_ ?_
  rotate_left
  ·(intro w hSw; (try dsimp only at hSw); (try obtain ⟨p0, ⟨p1, p2, p3⟩, _⟩ := hSw); go_simp <;> with_reducible rfl)
  try simp only [Act.put,sA,sB,sC]
  refine takeL 3 (v := ?_) rfl (by kernel_rfl) (by kernel_rfl) (by kernel_rfl) (fun _ _ _ h => h) (by rfl) (by assumption) ?_ ?_
  rotate_left
  ·(intro w hSw; (try dsimp only at hSw); (try obtain ⟨p0, ⟨p1, p2, p3⟩, _⟩ := hSw); go_simp <;> with_reducible rfl)
  try simp only [Act.put,sA,sB,sC]
  refine takeL 4 (v := ?_) rfl (by kernel_rfl) (by kernel_rfl) (by kernel_rfl) (fun _ _ _ h => h) (by rfl) (by assumption) ?_ ?_
  rotate_left
  ·(intro w hSw; (try dsimp only at hSw); (try obtain ⟨p0, ⟨p1, p2, p3⟩, _⟩ := hSw); go_simp <;> with_reducible rfl)
  try simp only [Act.put,sA,sB,sC]
  refine takeL 6 (v := ?_) rfl (by kernel_rfl) (by kernel_rfl) (by kernel_rfl) (fun _ _ _ h => h) (by rfl) (by assumption) ?_ ?_
  rotate_left
  ·(intro w hSw; (try dsimp only at hSw); (try obtain ⟨p0, ⟨p1, p2, p3⟩, _⟩ := hSw); go_simp <;> with_reducible rfl)
  try simp only [Act.put,sA,sB,sC]
  refine takeL 7 (v := ?_) rfl (by kernel_rfl) (by kernel_rfl) (by kernel_rfl) (fun _ _ _ h => h) (by rfl) (by assumption) ?_ ?_
  rotate_left
  ·(intro w hSw; (try dsimp only at hSw); (try obtain ⟨p0, ⟨p1, p2, p3⟩, _⟩ := hSw); go_simp <;> with_reducible rfl)
  try simp only [Act.put,sA,sB,sC]
  refine takeL 8 (v := ?_) rfl (by kernel_rfl) (by kernel_rfl) (by kernel_rfl) (fun _ _ _ h => h) (by rfl) (by assumption) ?_ ?_
  rotate_left
  ·(intro w hSw; (try dsimp only at hSw); (try obtain ⟨p0, ⟨p1, p2, p3⟩, _⟩ := hSw); go_simp <;> with_reducible rfl)
  try simp only [Act.put,sA,sB,sC]
  refine oneL 5 rfl (by kernel_rfl) (fun K hK => ?_)
  go_simp
  (go_at_call 110; (with_reducible refine (hFs.out _).mono ?_); rintro e w8 ⟨rfl, hb⟩)
  refine hK.out _ _ ?_ (fun hHeld2 => ?_)
  ·(try dsimp only)
   (first | exact hS1 | (obtain ⟨q0, qC, qR, qF, qB, qS⟩ := hHeld; exact ⟨cellK q0 hb, qC.keep hb, qR.keep hb, qF.keep qS hb, qB.trans (hb.mono (by omega)), Nat.lt_of_lt_of_le qS hb.size⟩))
  clear hK K hHeld
  have hHeld := hHeld2
  clear hHeld2
  try simp only [Act.put,sA,sB,sC]
  refine takeL 9 (v := ?_) rfl (by kernel_rfl) (by kernel_rfl) (by kernel_rfl) (fun _ _ _ h => h) (by rfl) (by assumption) ?_ ?_
  rotate_left
  ·(intro w hSw; (try dsimp only at hSw); (try obtain ⟨p0, ⟨p1, p2, p3⟩, _⟩ := hSw); go_simp <;> with_reducible rfl)
  try simp only [Act.put,sA,sB,sC]
  refine takeL 10 (v := ?_) rfl (by kernel_rfl) (by kernel_rfl) (by kernel_rfl) (fun _ _ _ h => h) (by rfl) (by assumption) ?_ ?_
  rotate_left
  ·(intro w hSw; (try dsimp only at hSw); (try obtain ⟨p0, ⟨p1, p2, p3⟩, _⟩ := hSw); go_simp <;> with_reducible rfl)
  try simp only [Act.put,sA,sB,sC]
  refine wpAnyH_done (by kernel_rfl) ?_ _
  obtain ⟨q0, ⟨m0, m1, m2⟩, ⟨d0, d1, d2⟩, ⟨f0, f1, f2⟩, qB, qS⟩ := hHeld
  (try simp only [Exit.inBlock, Exit.then])
  go_wp2_with fail
  (try simp only [Exit.inBlock, Exit.then])
  obtain ⟨w5, h5, ⟨t0, t1, t2⟩, hb5⟩ := st3_ex qB (Nat.le_refl _) d0 d1 d2 0 0 0
  rw [← h5]
  refine bodyPost_ret (v := .tuple #[nV 0 0 0, .bool false]) (by simp [nV, results, Tryz.results86, go_sem, t0, t1, t2]) rfl ⟨rfl, hb5⟩
theorem decode_no (v : Value) (l : List Nat) (x y : Nat) (w : World) (hv : KL .u64 w v l) (h2 : ¬ l.length < 2) (hx : l.getD 0 0 = x) (hy : l.getD 1 0 = y) (hx64 : x < 18446744073709551616) (t s : Nat) (ht : x % 65536 = t) (hs : x / 65536 % 65536 = s) (hr : hdB t s y = false) :
 Calls Tryz.prog 86 #[v] w fun e w' => e = .returned (.tuple #[nV 0 0 0, .bool false]) ∧ Below w.heap.size w w' := by
 obtain ⟨n, hn⟩ : ∃ n, l.length = n := ⟨_, rfl⟩
 obtain ⟨A, cap, rfl, hC⟩ := hv.form hn
 rw [hn] at h2
 have h2' : ¬ (n : Int) < 2 := by omega
 have hB0 : Below w.heap.size w (w.alloc (.cells #[.int .i64 0, .int .i64 0, .int .u64 0] 71)) := bZ _ _
 obtain ⟨g, off, rfl, hcap, hg, c0⟩ := hC (w.alloc (.cells #[.int .i64 0, .int .i64 0, .int .u64 0] 71)) 0 hB0 (by omega)
 obtain ⟨g', off', he, _, _, c1⟩ := hC (w.alloc (.cells #[.int .i64 0, .int .i64 0, .int .u64 0] 71)) 1 hB0 (by omega)
 cases he
 rw [hx, Nat.add_zero] at c0
 rw [hy] at c1
 have hG1 := lh (fun w => show Calls Tryz.prog 101 #[.int .u64 (x : Nat), .int .i64 0, .int .i64 16] w fun e w' => e = .returned (.int .u64 (t : Nat)) ∧ w' = w from (get_yes (x : Nat) 0 16 w (by omega) (by omega) (by omega) (by omega) (by omega) (by omega)).mono fun e w' ⟨he, hw⟩ => ⟨by rw [he, gI1, ht], hw.symm⟩)
 have hG2 := lh (fun w => show Calls Tryz.prog 101 #[.int .u64 (x : Nat), .int .i64 16, .int .i64 16] w fun e w' => e = .returned (.int .u64 (s : Nat)) ∧ w' = w from (get_yes (x : Nat) 16 16 w (by omega) (by omega) (by omega) (by omega) (by omega) (by omega)).mono fun e w' ⟨he, hw⟩ => ⟨by rw [he, gI2, hs], hw.symm⟩)
 have hRt := lh (fun w => right_any_oc t s y w (by omega))
 have e1 : IntKind.i64.wrap (t : Int) = (t : Int) := by rw [IntKind.wrap_i64]; omega
 have e2 : IntKind.i64.wrap (s : Int) = (s : Int) := by rw [IntKind.wrap_i64]; omega
 rw [hr] at hRt
 (try unfold nV at hRt)
 (try unfold nV at hFs)
 have hR := C3.new w (.int .i64 0) (.int .i64 0) (.int .u64 0) 71
 have hF := F3.new w (.int .i64 0) (.int .i64 0) (.int .u64 0) 71
 have i0 : (0 : Int) < (n : Int) := by omega
 have i1 : (1 : Int) < (n : Int) := by omega
 have j0 : 0 < n := by omega
 have j1 : 1 < n := by omega
 clear hC hv hn hx hy ht hs hcap hx64
 go_enter Tryz.func86, Tryz.ntmps86
 generalize hW : w.alloc (.cells #[.int .i64 0, .int .i64 0, .int .u64 0] 71) = W at *
 have hlw := hR.lt
 have hb1 : Below w.heap.size w W.drew := ⟨hB0.os, hB0.tape, hB0.output, hB0.size, hB0.block⟩
 have hS0 : W.drew.cell? ⟨g, off, none⟩ = some (.int .u64 (x : Nat)) ∧ W.drew.cell? ⟨g, off + 1, none⟩ = some (.int .u64 (y : Nat)) ∧ C3 W.drew w.heap.size (.int .i64 0) (.int .i64 0) (.int .u64 0) ∧ F3 W.drew w.heap.size ∧ Below w.heap.size w W.drew ∧ w.heap.size < W.drew.heap.size := ⟨c0, c1, hR, hF, hb1, hlw⟩
 go_wp2_with fail
 try rw [hW]
 refine wp_region_tail (S := (fun w' => w'.cell? ⟨g, off, none⟩ = some (.int .u64 (x : Nat)) ∧ w'.cell? ⟨g, off + 1, none⟩ = some (.int .u64 (y : Nat)) ∧ C3 w' w.heap.size (.int .i64 0) (.int .i64 0) (.int .u64 0) ∧ F3 w' w.heap.size ∧ Below w.heap.size w w' ∧ w.heap.size < w'.heap.size)) (n := 15) (by kernel_rfl) ?_ (fun hHeld hInv => ?_) (by decide)
 ·(try dsimp only)
  (first | exact hS0 | exact hHeld | (obtain ⟨q0, q1, qR, qF, qB, qS⟩ := hHeld; have hb := bZ W.drew (.cells #[.int .i64 0, .int .i64 0, .int .u64 0] 71); exact ⟨cellK q0 hb, cellK q1 hb, qR.keep hb, qF.keep qS hb, qB.trans (hb.mono (by omega)), Nat.lt_of_lt_of_le qS hb.size⟩))
 refine takeVS 0 hInv ?_; clear hInv; intro hInv
 refine takeVS 1 hInv ?_; clear hInv; intro hInv
 refine takeVS 2 hInv ?_; clear hInv; intro hInv
 refine takeVS 5 hInv ?_; clear hInv; intro hInv
 refine takeVS 6 hInv ?_; clear hInv; intro hInv
 refine takeVS 7 hInv ?_; clear hInv; intro hInv
 refine takeVS 10 hInv ?_; clear hInv; intro hInv
 refine takeVS 11 hInv ?_; clear hInv; intro hInv
 refine takeVS 12 hInv ?_; clear hInv; intro hInv
 refine twoS 3 14 hInv (by decide) (by decide) rfl rfl (by kernel_rfl) (fun K hK => ?_) (fun K hK => ?_)
 ·go_simp
  (go_at_call 101; (with_reducible refine (hG1.out _).mono ?_); rintro e w8 ⟨rfl, rfl⟩)
  refine hK.out _ _ ?_ (fun hHeld2 hInv2 => ?_)
  ·(try dsimp only)
   (first | exact hS0 | exact hHeld | (obtain ⟨q0, q1, qR, qF, qB, qS⟩ := hHeld; have hb := bZ W.drew (.cells #[.int .i64 0, .int .i64 0, .int .u64 0] 71); exact ⟨cellK q0 hb, cellK q1 hb, qR.keep hb, qF.keep qS hb, qB.trans (hb.mono (by omega)), Nat.lt_of_lt_of_le qS hb.size⟩))
  clear hK K hHeld hInv
  have hHeld := hHeld2
  have hInv := hInv2
  clear hHeld2 hInv2
  try simp only [Act.put,sA,sB,sC] at hInv ⊢
  refine takeVS 4 hInv ?_; clear hInv; intro hInv
  refine twoS 8 14 hInv (by decide) (by decide) rfl rfl (by kernel_rfl) (fun K hK => ?_) (fun K hK => ?_)
  ·go_simp
   (go_at_call 101; (with_reducible refine (hG2.out _).mono ?_); rintro e w8 ⟨rfl, rfl⟩)
   refine hK.out _ _ ?_ (fun hHeld2 hInv2 => ?_)
   ·(try dsimp only)
    (first | exact hS0 | exact hHeld | (obtain ⟨q0, q1, qR, qF, qB, qS⟩ := hHeld; have hb := bZ W.drew (.cells #[.int .i64 0, .int .i64 0, .int .u64 0] 71); exact ⟨cellK q0 hb, cellK q1 hb, qR.keep hb, qF.keep qS hb, qB.trans (hb.mono (by omega)), Nat.lt_of_lt_of_le qS hb.size⟩))
   clear hK K hHeld hInv
   have hHeld := hHeld2
   have hInv := hInv2
   clear hHeld2 hInv2
   try simp only [Act.put,sA,sB,sC] at hInv ⊢
   refine takeVS 9 hInv ?_; clear hInv; intro hInv
   refine takeVS 13 hInv ?_; clear hInv; intro hInv
   refine oneS 14 hInv (by decide) rfl (by kernel_rfl) (fun K hK => ?_)
   go_simp
   skip
   refine hK.out _ _ ?_ (fun hHeld2 hInv2 => ?_)
   ·(try dsimp only)
    (first | exact hS0 | exact hHeld | (obtain ⟨q0, q1, qR, qF, qB, qS⟩ := hHeld; have hb := bZ W.drew (.cells #[.int .i64 0, .int .i64 0, .int .u64 0] 71); exact ⟨cellK q0 hb, cellK q1 hb, qR.keep hb, qF.keep qS hb, qB.trans (hb.mono (by omega)), Nat.lt_of_lt_of_le qS hb.size⟩))
   clear hK K hHeld hInv
   have hHeld := hHeld2
   have hInv := hInv2
   clear hHeld2 hInv2
   try simp only [Act.put,sA,sB,sC] at hInv ⊢
   refine lastS 15 rfl (by decide) (by kernel_rfl) (fun K hK => ?_)
   go_simp
   refine hK.out _ _ ?_
   clear hK K
   try simp only [Act.put,sA,sB,sC]
   refine wpAnyS_done (by kernel_rfl) ?_ _
   obtain ⟨V, hV⟩ : ∃ V : World, V = (W.alloc (.cells #[.int .i64 (t : Nat), .int .i64 (s : Nat), .int .u64 (y : Nat)] (71 : Nat))).drew := ⟨_, rfl⟩
   have hbV : Below W.heap.size W V := by rw [hV]; exact (bZ W _).drew
   have hkV : C3 V W.heap.size (.int .i64 (t : Nat)) (.int .i64 (s : Nat)) (.int .u64 (y : Nat)) := by rw [hV]; exact C3.new _ _ _ _ _
   rw [← hV]
   have v0 := cellK c0 hbV
   have hRV := hR.keep hbV
   have hFV := hF.keep hlw hbV
   have hBV : Below w.heap.size w V := hB0.trans (hbV.mono (by omega))
   have hlV : w.heap.size < V.heap.size := Nat.lt_of_lt_of_le hlw hbV.size
   clear hV hHeld hInv hbV hS0 c0 c1 hR hF hb1 hB0 hG1 hG2 hW
   obtain ⟨B9, hB9⟩ : ∃ B9, W.heap.size = B9 := ⟨_, rfl⟩
   rw [hB9] at hkV hg hlw ⊢
   clear hB9
   have hbV1 : Below w.heap.size w V.drew := ⟨hBV.os, hBV.tape, hBV.output, hBV.size, hBV.block⟩
   have hS1 : V.drew.cell? ⟨g, off, none⟩ = some (.int .u64 (x : Nat)) ∧ C3 V.drew B9 (.int .i64 (t : Nat)) (.int .i64 (s : Nat)) (.int .u64 (y : Nat)) ∧ C3 V.drew w.heap.size (.int .i64 0) (.int .i64 0) (.int .u64 0) ∧ F3 V.drew w.heap.size ∧ Below w.heap.size w V.drew ∧ w.heap.size < V.drew.heap.size := ⟨v0, hkV, hRV, hFV, hbV1, hlV⟩
   (try simp only [Exit.inBlock, Exit.then])
   go_wp2_with fail
   refine wp_region_held_drew (S := (fun w' => w'.cell? ⟨g, off, none⟩ = some (.int .u64 (x : Nat)) ∧ C3 w' B9 (.int .i64 (t : Nat)) (.int .i64 (s : Nat)) (.int .u64 (y : Nat)) ∧ C3 w' w.heap.size (.int .i64 0) (.int .i64 0) (.int .u64 0) ∧ F3 w' w.heap.size ∧ Below w.heap.size w w' ∧ w.heap.size < w'.heap.size)) (by kernel_rfl) ?_ (fun hHeld => ?_)
   ·(try dsimp only)
    (first | exact hS1 | (obtain ⟨q0, qC, qR, qF, qB, qS⟩ := hHeld; exact ⟨cellK q0 hb, qC.keep hb, qR.keep hb, qF.keep qS hb, qB.trans (hb.mono (by omega)), Nat.lt_of_lt_of_le qS hb.size⟩))
   refine takeL 0 (v := ?_) rfl (by kernel_rfl) (by kernel_rfl) (by kernel_rfl) (fun _ _ _ h => h) (by rfl) (by assumption) ?_ ?_
   rotate_left
   ·(intro w hSw; (try dsimp only at hSw); (try obtain ⟨p0, ⟨p1, p2, p3⟩, _⟩ := hSw); go_simp <;> with_reducible rfl)
   try simp only [Act.put,sA,sB,sC]
   refine oneL 1 rfl (by kernel_rfl) (fun K hK => ?_)
   go_simp
   (go_at_call 109; (with_reducible refine (hRt.out _).mono ?_); rintro e w8 ⟨rfl, hb⟩)
   refine hK.out _ _ ?_ (fun hHeld2 => ?_)
   ·(try dsimp only)
    (first | exact hS1 | (obtain ⟨q0, qC, qR, qF, qB, qS⟩ := hHeld; exact ⟨cellK q0 hb, qC.keep hb, qR.keep hb, qF.keep qS hb, qB.trans (hb.mono (by omega)), Nat.lt_of_lt_of_le qS hb.size⟩))
   clear hK K hHeld
   have hHeld := hHeld2
   clear hHeld2
   try simp only [Act.put,sA,sB,sC]
   refine takeL 2 (v := ?_) rfl (by kernel_rfl) (by kernel_rfl) (by kernel_rfl) (fun _ _ _ h => h) (by rfl) (by assumption) ?_ ?_
   rotate_left
   ·(intro w hSw; (try dsimp only at hSw); (try obtain ⟨p0, ⟨p1, p2, p3⟩, _⟩ := hSw); go_simp <;> with_reducible rfl)
   try simp only [Act.put,sA,sB,sC]
   refine takeL 3 (v := ?_) rfl (by kernel_rfl) (by kernel_rfl) (by kernel_rfl) (fun _ _ _ h => h) (by rfl) (by assumption) ?_ ?_
   rotate_left
   ·(intro w hSw; (try dsimp only at hSw); (try obtain ⟨p0, ⟨p1, p2, p3⟩, _⟩ := hSw); go_simp <;> with_reducible rfl)
   try simp only [Act.put,sA,sB,sC]
   refine idleQ 4 ?_
   refine idleQ 5 ?_
   refine idleQ 6 ?_
   refine idleQ 7 ?_
   refine idleQ 8 ?_
   refine idleQ 9 ?_
   refine takeL 10 (v := ?_) rfl (by kernel_rfl) (by kernel_rfl) (by kernel_rfl) (fun _ _ _ h => h) (by rfl) (by assumption) ?_ ?_
   rotate_left
   ·(intro w hSw; (try dsimp only at hSw); (try obtain ⟨p0, ⟨p1, p2, p3⟩, _⟩ := hSw); go_simp <;> with_reducible rfl)
   try simp only [Act.put,sA,sB,sC]
   refine wpAnyH_done (by kernel_rfl) ?_ _
   obtain ⟨q0, ⟨m0, m1, m2⟩, ⟨d0, d1, d2⟩, ⟨f0, f1, f2⟩, qB, qS⟩ := hHeld
   (try simp only [Exit.inBlock, Exit.then])
   go_wp2_with fail
   (try simp only [Exit.inBlock, Exit.then])
   obtain ⟨w5, h5, ⟨t0, t1, t2⟩, hb5⟩ := st3_ex qB (Nat.le_refl _) d0 d1 d2 0 0 0
   rw [← h5]
   refine bodyPost_ret (v := .tuple #[nV 0 0 0, .bool false]) (by simp [nV, results, Tryz.results86, go_sem, t0, t1, t2]) rfl ⟨rfl, hb5⟩
  ·go_simp
   skip
   refine hK.out _ _ ?_ (fun hHeld2 hInv2 => ?_)
   ·(try dsimp only)
    (first | exact hS0 | exact hHeld | (obtain ⟨q0, q1, qR, qF, qB, qS⟩ := hHeld; have hb := bZ W.drew (.cells #[.int .i64 0, .int .i64 0, .int .u64 0] 71); exact ⟨cellK q0 hb, cellK q1 hb, qR.keep hb, qF.keep qS hb, qB.trans (hb.mono (by omega)), Nat.lt_of_lt_of_le qS hb.size⟩))
   clear hK K hHeld hInv
   have hHeld := hHeld2
   have hInv := hInv2
   clear hHeld2 hInv2
   try simp only [Act.put,sA,sB,sC] at hInv ⊢
   refine oneS 8 hInv (by decide) rfl (by kernel_rfl) (fun K hK => ?_)
   go_simp
   (go_at_call 101; (with_reducible refine (hG2.out _).mono ?_); rintro e w8 ⟨rfl, rfl⟩)
   refine hK.out _ _ ?_ (fun hHeld2 hInv2 => ?_)
   ·(try dsimp only)
    (first | exact hS0 | exact hHeld | (obtain ⟨q0, q1, qR, qF, qB, qS⟩ := hHeld; have hb := bZ W.drew (.cells #[.int .i64 0, .int .i64 0, .int .u64 0] 71); exact ⟨cellK q0 hb, cellK q1 hb, qR.keep hb, qF.keep qS hb, qB.trans (hb.mono (by omega)), Nat.lt_of_lt_of_le qS hb.size⟩))
   clear hK K hHeld hInv
   have hHeld := hHeld2
   have hInv := hInv2
   clear hHeld2 hInv2
   try simp only [Act.put,sA,sB,sC] at hInv ⊢
   refine takeVS 9 hInv ?_; clear hInv; intro hInv
   refine takeVS 13 hInv ?_; clear hInv; intro hInv
   refine lastS 15 rfl (by decide) (by kernel_rfl) (fun K hK => ?_)
   go_simp
   refine hK.out _ _ ?_
   clear hK K
   try simp only [Act.put,sA,sB,sC]
   refine wpAnyS_done (by kernel_rfl) ?_ _
   obtain ⟨V, hV⟩ : ∃ V : World, V = (W.alloc (.cells #[.int .i64 (t : Nat), .int .i64 (s : Nat), .int .u64 (y : Nat)] (71 : Nat))).drew := ⟨_, rfl⟩
   have hbV : Below W.heap.size W V := by rw [hV]; exact (bZ W _).drew
   have hkV : C3 V W.heap.size (.int .i64 (t : Nat)) (.int .i64 (s : Nat)) (.int .u64 (y : Nat)) := by rw [hV]; exact C3.new _ _ _ _ _
   rw [← hV]
   have v0 := cellK c0 hbV
   have hRV := hR.keep hbV
   have hFV := hF.keep hlw hbV
   have hBV : Below w.heap.size w V := hB0.trans (hbV.mono (by omega))
   have hlV : w.heap.size < V.heap.size := Nat.lt_of_lt_of_le hlw hbV.size
   clear hV hHeld hInv hbV hS0 c0 c1 hR hF hb1 hB0 hG1 hG2 hW
   obtain ⟨B9, hB9⟩ : ∃ B9, W.heap.size = B9 := ⟨_, rfl⟩
   rw [hB9] at hkV hg hlw ⊢
   clear hB9
   have hbV1 : Below w.heap.size w V.drew := ⟨hBV.os, hBV.tape, hBV.output, hBV.size, hBV.block⟩
   have hS1 : V.drew.cell? ⟨g, off, none⟩ = some (.int .u64 (x : Nat)) ∧ C3 V.drew B9 (.int .i64 (t : Nat)) (.int .i64 (s : Nat)) (.int .u64 (y : Nat)) ∧ C3 V.drew w.heap.size (.int .i64 0) (.int .i64 0) (.int .u64 0) ∧ F3 V.drew w.heap.size ∧ Below w.heap.size w V.drew ∧ w.heap.size < V.drew.heap.size := ⟨v0, hkV, hRV, hFV, hbV1, hlV⟩
   (try simp only [Exit.inBlock, Exit.then])
   go_wp2_with fail
   refine wp_region_held_drew (S := (fun w' => w'.cell? ⟨g, off, none⟩ = some (.int .u64 (x : Nat)) ∧ C3 w' B9 (.int .i64 (t : Nat)) (.int .i64 (s : Nat)) (.int .u64 (y : Nat)) ∧ C3 w' w.heap.size (.int .i64 0) (.int .i64 0) (.int .u64 0) ∧ F3 w' w.heap.size ∧ Below w.heap.size w w' ∧ w.heap.size < w'.heap.size)) (by kernel_rfl) ?_ (fun hHeld => ?_)
   ·(try dsimp only)
    (first | exact hS1 | (obtain ⟨q0, qC, qR, qF, qB, qS⟩ := hHeld; exact ⟨cellK q0 hb, qC.keep hb, qR.keep hb, qF.keep qS hb, qB.trans (hb.mono (by omega)), Nat.lt_of_lt_of_le qS hb.size⟩))
   refine takeL 0 (v := ?_) rfl (by kernel_rfl) (by kernel_rfl) (by kernel_rfl) (fun _ _ _ h => h) (by rfl) (by assumption) ?_ ?_
   rotate_left
   ·(intro w hSw; (try dsimp only at hSw); (try obtain ⟨p0, ⟨p1, p2, p3⟩, _⟩ := hSw); go_simp <;> with_reducible rfl)
   try simp only [Act.put,sA,sB,sC]
   refine oneL 1 rfl (by kernel_rfl) (fun K hK => ?_)
   go_simp
   (go_at_call 109; (with_reducible refine (hRt.out _).mono ?_); rintro e w8 ⟨rfl, hb⟩)
   refine hK.out _ _ ?_ (fun hHeld2 => ?_)
   ·(try dsimp only)
    (first | exact hS1 | (obtain ⟨q0, qC, qR, qF, qB, qS⟩ := hHeld; exact ⟨cellK q0 hb, qC.keep hb, qR.keep hb, qF.keep qS hb, qB.trans (hb.mono (by omega)), Nat.lt_of_lt_of_le qS hb.size⟩))
   clear hK K hHeld
   have hHeld := hHeld2
   clear hHeld2
   try simp only [Act.put,sA,sB,sC]
   refine takeL 2 (v := ?_) rfl (by kernel_rfl) (by kernel_rfl) (by kernel_rfl) (fun _ _ _ h => h) (by rfl) (by assumption) ?_ ?_
   rotate_left
   ·(intro w hSw; (try dsimp only at hSw); (try obtain ⟨p0, ⟨p1, p2, p3⟩, _⟩ := hSw); go_simp <;> with_reducible rfl)
   try simp only [Act.put,sA,sB,sC]
   refine takeL 3 (v := ?_) rfl (by kernel_rfl) (by kernel_rfl) (by kernel_rfl) (fun _ _ _ h => h) (by rfl) (by assumption) ?_ ?_
   rotate_left
   ·(intro w hSw; (try dsimp only at hSw); (try obtain ⟨p0, ⟨p1, p2, p3⟩, _⟩ := hSw); go_simp <;> with_reducible rfl)
   try simp only [Act.put,sA,sB,sC]
   refine idleQ 4 ?_
   refine idleQ 5 ?_
   refine idleQ 6 ?_
   refine idleQ 7 ?_
   refine idleQ 8 ?_
   refine idleQ 9 ?_
   refine takeL 10 (v := ?_) rfl (by kernel_rfl) (by kernel_rfl) (by kernel_rfl) (fun _ _ _ h => h) (by rfl) (by assumption) ?_ ?_
   rotate_left
   ·(intro w hSw; (try dsimp only at hSw); (try obtain ⟨p0, ⟨p1, p2, p3⟩, _⟩ := hSw); go_simp <;> with_reducible rfl)
   try simp only [Act.put,sA,sB,sC]
   refine wpAnyH_done (by kernel_rfl) ?_ _
   obtain ⟨q0, ⟨m0, m1, m2⟩, ⟨d0, d1, d2⟩, ⟨f0, f1, f2⟩, qB, qS⟩ := hHeld
   (try simp only [Exit.inBlock, Exit.then])
   go_wp2_with fail
   (try simp only [Exit.inBlock, Exit.then])
   obtain ⟨w5, h5, ⟨t0, t1, t2⟩, hb5⟩ := st3_ex qB (Nat.le_refl _) d0 d1 d2 0 0 0
   rw [← h5]
   refine bodyPost_ret (v := .tuple #[nV 0 0 0, .bool false]) (by simp [nV, results, Tryz.results86, go_sem, t0, t1, t2]) rfl ⟨rfl, hb5⟩
 ·go_simp
  skip
  refine hK.out _ _ ?_ (fun hHeld2 hInv2 => ?_)
  ·(try dsimp only)
   (first | exact hS0 | exact hHeld | (obtain ⟨q0, q1, qR, qF, qB, qS⟩ := hHeld; have hb := bZ W.drew (.cells #[.int .i64 0, .int .i64 0, .int .u64 0] 71); exact ⟨cellK q0 hb, cellK q1 hb, qR.keep hb, qF.keep qS hb, qB.trans (hb.mono (by omega)), Nat.lt_of_lt_of_le qS hb.size⟩))
  clear hK K hHeld hInv
  have hHeld := hHeld2
  have hInv := hInv2
  clear hHeld2 hInv2
  try simp only [Act.put,sA,sB,sC] at hInv ⊢
  refine oneS 3 hInv (by decide) rfl (by kernel_rfl) (fun K hK => ?_)
  go_simp
  (go_at_call 101; (with_reducible refine (hG1.out _).mono ?_); rintro e w8 ⟨rfl, rfl⟩)
  refine hK.out _ _ ?_ (fun hHeld2 hInv2 => ?_)
  ·(try dsimp only)
   (first | exact hS0 | exact hHeld | (obtain ⟨q0, q1, qR, qF, qB, qS⟩ := hHeld; have hb := bZ W.drew (.cells #[.int .i64 0, .int .i64 0, .int .u64 0] 71); exact ⟨cellK q0 hb, cellK q1 hb, qR.keep hb, qF.keep qS hb, qB.trans (hb.mono (by omega)), Nat.lt_of_lt_of_le qS hb.size⟩))
  clear hK K hHeld hInv
  have hHeld := hHeld2
  have hInv := hInv2
  clear hHeld2 hInv2
  try simp only [Act.put,sA,sB,sC] at hInv ⊢
  refine takeVS 4 hInv ?_; clear hInv; intro hInv
  refine oneS 8 hInv (by decide) rfl (by kernel_rfl) (fun K hK => ?_)
  go_simp
  (go_at_call 101; (with_reducible refine (hG2.out _).mono ?_); rintro e w8 ⟨rfl, rfl⟩)
  refine hK.out _ _ ?_ (fun hHeld2 hInv2 => ?_)
  ·(try dsimp only)
   (first | exact hS0 | exact hHeld | (obtain ⟨q0, q1, qR, qF, qB, qS⟩ := hHeld; have hb := bZ W.drew (.cells #[.int .i64 0, .int .i64 0, .int .u64 0] 71); exact ⟨cellK q0 hb, cellK q1 hb, qR.keep hb, qF.keep qS hb, qB.trans (hb.mono (by omega)), Nat.lt_of_lt_of_le qS hb.size⟩))
  clear hK K hHeld hInv
  have hHeld := hHeld2
  have hInv := hInv2
  clear hHeld2 hInv2
  try simp only [Act.put,sA,sB,sC] at hInv ⊢
  refine takeVS 9 hInv ?_; clear hInv; intro hInv
  refine takeVS 13 hInv ?_; clear hInv; intro hInv
  refine lastS 15 rfl (by decide) (by kernel_rfl) (fun K hK => ?_)
  go_simp
  refine hK.out _ _ ?_
  clear hK K
  try simp only [Act.put,sA,sB,sC]
  refine wpAnyS_done (by kernel_rfl) ?_ _
  obtain ⟨V, hV⟩ : ∃ V : World, V = (W.alloc (.cells #[.int .i64 (t : Nat), .int .i64 (s : Nat), .int .u64 (y : Nat)] (71 : Nat))).drew := ⟨_, rfl⟩
  have hbV : Below W.heap.size W V := by rw [hV]; exact (bZ W _).drew
  have hkV : C3 V W.heap.size (.int .i64 (t : Nat)) (.int .i64 (s : Nat)) (.int .u64 (y : Nat)) := by rw [hV]; exact C3.new _ _ _ _ _
  rw [← hV]
  have v0 := cellK c0 hbV
  have hRV := hR.keep hbV
  have hFV := hF.keep hlw hbV
  have hBV : Below w.heap.size w V := hB0.trans (hbV.mono (by omega))
  have hlV : w.heap.size < V.heap.size := Nat.lt_of_lt_of_le hlw hbV.size
  clear hV hHeld hInv hbV hS0 c0 c1 hR hF hb1 hB0 hG1 hG2 hW
  obtain ⟨B9, hB9⟩ : ∃ B9, W.heap.size = B9 := ⟨_, rfl⟩
  rw [hB9] at hkV hg hlw ⊢
  clear hB9
  have hbV1 : Below w.heap.size w V.drew := ⟨hBV.os, hBV.tape, hBV.output, hBV.size, hBV.block⟩
  have hS1 : V.drew.cell? ⟨g, off, none⟩ = some (.int .u64 (x : Nat)) ∧ C3 V.drew B9 (.int .i64 (t : Nat)) (.int .i64 (s : Nat)) (.int .u64 (y : Nat)) ∧ C3 V.drew w.heap.size (.int .i64 0) (.int .i64 0) (.int .u64 0) ∧ F3 V.drew w.heap.size ∧ Below w.heap.size w V.drew ∧ w.heap.size < V.drew.heap.size := ⟨v0, hkV, hRV, hFV, hbV1, hlV⟩
  (try simp only [Exit.inBlock, Exit.then])
  go_wp2_with fail
  refine wp_region_held_drew (S := (fun w' => w'.cell? ⟨g, off, none⟩ = some (.int .u64 (x : Nat)) ∧ C3 w' B9 (.int .i64 (t : Nat)) (.int .i64 (s : Nat)) (.int .u64 (y : Nat)) ∧ C3 w' w.heap.size (.int .i64 0) (.int .i64 0) (.int .u64 0) ∧ F3 w' w.heap.size ∧ Below w.heap.size w w' ∧ w.heap.size < w'.heap.size)) (by kernel_rfl) ?_ (fun hHeld => ?_)
  ·(try dsimp only)
   (first | exact hS1 | (obtain ⟨q0, qC, qR, qF, qB, qS⟩ := hHeld; exact ⟨cellK q0 hb, qC.keep hb, qR.keep hb, qF.keep qS hb, qB.trans (hb.mono (by omega)), Nat.lt_of_lt_of_le qS hb.size⟩))
  refine takeL 0 (v := ?_) rfl (by kernel_rfl) (by kernel_rfl) (by kernel_rfl) (fun _ _ _ h => h) (by rfl) (by assumption) ?_ ?_
  rotate_left
  ·(intro w hSw; (try dsimp only at hSw); (try obtain ⟨p0, ⟨p1, p2, p3⟩, _⟩ := hSw); go_simp <;> with_reducible rfl)
  try simp only [Act.put,sA,sB,sC]
  refine oneL 1 rfl (by kernel_rfl) (fun K hK => ?_)
  go_simp
  (go_at_call 109; (with_reducible refine (hRt.out _).mono ?_); rintro e w8 ⟨rfl, hb⟩)
  refine hK.out _ _ ?_ (fun hHeld2 => ?_)
  ·(try dsimp only)
   (first | exact hS1 | (obtain ⟨q0, qC, qR, qF, qB, qS⟩ := hHeld; exact ⟨cellK q0 hb, qC.keep hb, qR.keep hb, qF.keep qS hb, qB.trans (hb.mono (by omega)), Nat.lt_of_lt_of_le qS hb.size⟩))
  clear hK K hHeld
  have hHeld := hHeld2
  clear hHeld2
  try simp only [Act.put,sA,sB,sC]
  refine takeL 2 (v := ?_) rfl (by kernel_rfl) (by kernel_rfl) (by kernel_rfl) (fun _ _ _ h => h) (by rfl) (by assumption) ?_ ?_
  rotate_left
  ·(intro w hSw; (try dsimp only at hSw); (try obtain ⟨p0, ⟨p1, p2, p3⟩, _⟩ := hSw); go_simp <;> with_reducible rfl)
  try simp only [Act.put,sA,sB,sC]
  refine takeL 3 (v := ?_) rfl (by kernel_rfl) (by kernel_rfl) (by kernel_rfl) (fun _ _ _ h => h) (by rfl) (by assumption) ?_ ?_
  rotate_left
  ·(intro w hSw; (try dsimp only at hSw); (try obtain ⟨p0, ⟨p1, p2, p3⟩, _⟩ := hSw); go_simp <;> with_reducible rfl)
  try simp only [Act.put,sA,sB,sC]
  refine idleQ 4 ?_
  refine idleQ 5 ?_
  refine idleQ 6 ?_
  refine idleQ 7 ?_
  refine idleQ 8 ?_
  refine idleQ 9 ?_
  refine takeL 10 (v := ?_) rfl (by kernel_rfl) (by kernel_rfl) (by kernel_rfl) (fun _ _ _ h => h) (by rfl) (by assumption) ?_ ?_
  rotate_left
  ·(intro w hSw; (try dsimp only at hSw); (try obtain ⟨p0, ⟨p1, p2, p3⟩, _⟩ := hSw); go_simp <;> with_reducible rfl)
  try simp only [Act.put,sA,sB,sC]
  refine wpAnyH_done (by kernel_rfl) ?_ _
  obtain ⟨q0, ⟨m0, m1, m2⟩, ⟨d0, d1, d2⟩, ⟨f0, f1, f2⟩, qB, qS⟩ := hHeld
  (try simp only [Exit.inBlock, Exit.then])
  go_wp2_with fail
  (try simp only [Exit.inBlock, Exit.then])
  obtain ⟨w5, h5, ⟨t0, t1, t2⟩, hb5⟩ := st3_ex qB (Nat.le_refl _) d0 d1 d2 0 0 0
  rw [← h5]
  refine bodyPost_ret (v := .tuple #[nV 0 0 0, .bool false]) (by simp [nV, results, Tryz.results86, go_sem, t0, t1, t2]) rfl ⟨rfl, hb5⟩
end Go.Proofs.YtdmmbnnejbmdpaaGreatDoor
