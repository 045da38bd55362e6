/-
  Part of the proof of SoundTells,SoundGiven.
-/
import Derived.Test.YtdmmbnnejbmdpaaGreatDoorVu910
import Derived.Test.YtdmmbnnejbmdpaaGreatDoorVu93
import Derived.Test.YtdmmbnnejbmdpaaGreatDoorVu90
set_option maxRecDepth 10000
set_option maxHeartbeats 2000000
set_option linter.unusedVariables false
set_option linter.unusedSimpArgs false
section
namespace Go.Proofs.YtdmmbnnejbmdpaaGreatDoor
open Go.RowKit
def smW (a b c : Int) : Int := 10 + 73 * (1 + a % 64) + 33 * (1 + b % 200) + c % 33
def smL (a : Int) : Int := 1 + a % 64
theorem small_any (a b c : Int) (w : World) (h1 : 0 ≤ a) (h2 : a ≤ 255) (h3 : 0 ≤ b) (h4 : b ≤ 255) (h5 : 0 ≤ c) (h6 : c ≤ 255) :
 Calls Tryz.prog 59 #[.int .u8 a, .int .u8 b, .int .u8 c] w fun e w' => e = .returned (.agg #[.int .i64 (smW a b c), .int .i64 (smL a)]) ∧ Below w.heap.size w w' := by
 go_enter Tryz.func59, Tryz.ntmps59
 go_wp2
 go_returns
 refine ⟨?_, by go_grown⟩
 unfold smW smL
 exact ret_g (by omega) (by omega)
end Go.Proofs.YtdmmbnnejbmdpaaGreatDoor
end
section
namespace Go.Proofs.YtdmmbnnejbmdpaaGreatDoor
open Go.RowKit
theorem refMark_yes (W L i : Int) (w : World) (h : gOk W L = true) (hi : 0 ≤ i) (hi2 : i < L) :
 Calls Tryz.prog 57 #[.agg #[.int .i64 W, .int .i64 L], .int .i64 i] w fun e w' => e = .returned (.int .i64 (10 + i)) ∧ Below w.heap.size w w' := by
 obtain ⟨h1, h2, h3, h4⟩ := gOk_t h
 have H := lh h
 clear h
 go_enter Tryz.func57, Tryz.ntmps57
 go_wp2_with fail
 refine (refRight_t W L _ H.out).mono ?_
 rintro e w1 ⟨rfl, hb⟩
 have j1 := (C2.new w (.int .i64 W) (.int .i64 L) 51).keep hb
 obtain ⟨d0, d1⟩ := id j1
 go_wp2_with fail
 go_ret
 exact ⟨rfl, (bZ _ _).trans (hb.mono (by simp))⟩
theorem refMark_t (W L i : Int) (w : World) (h : lOk W L i = true) :
 Calls Tryz.prog 57 #[.agg #[.int .i64 W, .int .i64 L], .int .i64 i] w fun e w' => e = .returned (.int .i64 (10 + i)) ∧ Below w.heap.size w w' := refMark_yes W L i w (lOk_t h).1 (lOk_t h).2.1 (lOk_t h).2.2
theorem refLog_yes (W L i : Int) (w : World) (h : gOk W L = true) (hi : 0 ≤ i) (hi2 : i < L) :
 Calls Tryz.prog 92 #[.agg #[.int .i64 W, .int .i64 L], .int .i64 i] w fun e w' => e = .returned (.agg #[.int .i64 (10 + L + i * 72), .int .i64 32]) ∧ Below w.heap.size w w' := by
 obtain ⟨h1, h2, h3, h4⟩ := gOk_t h
 have H := lh h
 clear h
 go_enter Tryz.func92, Tryz.ntmps92
 go_wp2_with fail
 refine (refRight_t W L _ H.out).mono ?_
 rintro e w1 ⟨rfl, hb⟩
 have k1 := (C2.new (w.alloc (.cells #[.int .i64 W, .int .i64 L] 51)) (.int .i64 0) (.int .i64 0) 57).keep hb
 have j1 := ((C2.new w (.int .i64 W) (.int .i64 L) 51).alloc (.cells #[.int .i64 0, .int .i64 0] 57)).keep hb
 have f1 := (F2.new (w.alloc (.cells #[.int .i64 W, .int .i64 L] 51)) (.int .i64 0) (.int .i64 0) 57).keep (by simp) hb
 simp only [World.size_alloc] at k1 f1
 have hB : Below w.heap.size w w1 := ((bZ _ _).alloc (by simp) _).trans (hb.mono (by simp; omega))
 have lt1 := k1.lt
 obtain ⟨c0, c1⟩ := id k1
 obtain ⟨d0, d1⟩ := id j1
 obtain ⟨g0, g1⟩ := id f1
 go_wp2_with fail
 refine bodyPost_ret (v := .agg #[.int .i64 (10 + L + i * 72), .int .i64 32]) (by simp [results, Tryz.results92, go_sem, c0, c1]; try omega) rfl ⟨rfl, ?_⟩
 go_grown
theorem refLog_t (W L i : Int) (w : World) (h : lOk W L i = true) :
 Calls Tryz.prog 92 #[.agg #[.int .i64 W, .int .i64 L], .int .i64 i] w fun e w' => e = .returned (.agg #[.int .i64 (10 + L + i * 72), .int .i64 32]) ∧ Below w.heap.size w w' := refLog_yes W L i w (lOk_t h).1 (lOk_t h).2.1 (lOk_t h).2.2
theorem refRedo_yes (W L i : Int) (w : World) (h : gOk W L = true) (hi : 0 ≤ i) (hi2 : i < L) :
 Calls Tryz.prog 55 #[.agg #[.int .i64 W, .int .i64 L], .int .i64 i] w fun e w' => e = .returned (.agg #[.int .i64 (10 + L + i * 72 + 32), .int .i64 40]) ∧ Below w.heap.size w w' := by
 obtain ⟨h1, h2, h3, h4⟩ := gOk_t h
 have H := lh h
 clear h
 go_enter Tryz.func55, Tryz.ntmps55
 go_wp2_with fail
 refine (refRight_t W L _ H.out).mono ?_
 rintro e w1 ⟨rfl, hb⟩
 have k1 := (C2.new (w.alloc (.cells #[.int .i64 W, .int .i64 L] 51)) (.int .i64 0) (.int .i64 0) 57).keep hb
 have j1 := ((C2.new w (.int .i64 W) (.int .i64 L) 51).alloc (.cells #[.int .i64 0, .int .i64 0] 57)).keep hb
 have f1 := (F2.new (w.alloc (.cells #[.int .i64 W, .int .i64 L] 51)) (.int .i64 0) (.int .i64 0) 57).keep (by simp) hb
 simp only [World.size_alloc] at k1 f1
 have hB : Below w.heap.size w w1 := ((bZ _ _).alloc (by simp) _).trans (hb.mono (by simp; omega))
 have lt1 := k1.lt
 obtain ⟨c0, c1⟩ := id k1
 obtain ⟨d0, d1⟩ := id j1
 obtain ⟨g0, g1⟩ := id f1
 go_wp2_with fail
 refine bodyPost_ret (v := .agg #[.int .i64 (10 + L + i * 72 + 32), .int .i64 40]) (by simp [results, Tryz.results55, go_sem, c0, c1]; try omega) rfl ⟨rfl, ?_⟩
 go_grown
theorem refRedo_t (W L i : Int) (w : World) (h : lOk W L i = true) :
 Calls Tryz.prog 55 #[.agg #[.int .i64 W, .int .i64 L], .int .i64 i] w fun e w' => e = .returned (.agg #[.int .i64 (10 + L + i * 72 + 32), .int .i64 40]) ∧ Below w.heap.size w w' := refRedo_yes W L i w (lOk_t h).1 (lOk_t h).2.1 (lOk_t h).2.2
end Go.Proofs.YtdmmbnnejbmdpaaGreatDoor
end
section
set_option maxRecDepth 100000
namespace Go.Proofs.YtdmmbnnejbmdpaaGreatDoor
open Go.RowKit Go.Lib
theorem refDecode_short (v : Value) (l : List Nat) (w : World) (hv : KL .u64 w v l) (h : l.length < 2) :
 Calls Tryz.prog 82 #[v] w fun e w' => e = .returned (.tuple #[nV 0 0 0, .bool false]) ∧ Below w.heap.size w w' := by
 obtain ⟨n, hn⟩ : ∃ n, l.length = n := ⟨_, rfl⟩
 obtain ⟨A, cap, rfl, hC⟩ := hv.form hn
 rw [hn] at h
 have h' : (n : Int) < 2 := by omega
 clear hC hv hn
 have hR := C3.new w (.int .i64 0) (.int .i64 0) (.int .u64 0) 71
 have hF := F3.new w (.int .i64 0) (.int .i64 0) (.int .u64 0) 71
 go_enter Tryz.func82, Tryz.ntmps82
 have hB : Below w.heap.size w (w.alloc (.cells #[.int .i64 0, .int .i64 0, .int .u64 0] 71)) := bZ _ _
 go_wp2_with fail
 refine bodyPost_ret (v := .tuple #[nV 0 0 0, .bool false]) (by simp [nV, results, Tryz.results82, go_sem]) rfl ⟨rfl, ?_⟩
 go_grown
theorem refDecode_yes (v : Value) (l : List Nat) (x y : Nat) (w : World) (hv : KL .u64 w v l) (h2 : ¬ l.length < 2) (hx : l.getD 0 0 = x) (hy : l.getD 1 0 = y) (hx64 : x < 18446744073709551616) (t s : Nat) (ht : x % 65536 = t) (hs : x / 65536 % 65536 = s) (hr : hdB t s y = true) (hsg : x / 4294967296 = 4200005632) :
 Calls Tryz.prog 82 #[v] w fun e w' => e = .returned (.tuple #[nV (t : Nat) (s : Nat) (y : Nat), .bool true]) ∧ Below w.heap.size w w' := by
 obtain ⟨n, hn⟩ : ∃ n, l.length = n := ⟨_, rfl⟩
 obtain ⟨A, cap, rfl, hC⟩ := hv.form hn
 rw [hn] at h2
 have h2' : ¬ (n : Int) < 2 := by omega
 have hB0 : Below w.heap.size w (w.alloc (.cells #[.int .i64 0, .int .i64 0, .int .u64 0] 71)) := bZ _ _
 obtain ⟨g, off, rfl, hcap, hg, c0⟩ := hC (w.alloc (.cells #[.int .i64 0, .int .i64 0, .int .u64 0] 71)) 0 hB0 (by omega)
 obtain ⟨g', off', he, _, _, c1⟩ := hC (w.alloc (.cells #[.int .i64 0, .int .i64 0, .int .u64 0] 71)) 1 hB0 (by omega)
 cases he
 rw [hx, Nat.add_zero] at c0
 rw [hy] at c1
 have hRt := lh (fun w => refRight_any_oc t s y w (by omega))
 have e1 : IntKind.i64.wrap (t : Int) = (t : Int) := by rw [IntKind.wrap_i64]; omega
 have e2 : IntKind.i64.wrap (s : Int) = (s : Int) := by rw [IntKind.wrap_i64]; omega
 obtain ⟨z, hz⟩ : ∃ z : Nat, x / 65536 = z := ⟨_, rfl⟩
 have f1 : (x : Int).tmod 65536 = (t : Int) := by rw [Int.tmod_eq_emod_of_nonneg (by omega)]; omega
 have f2 : IntKind.u64.wrap ((x : Int) / 65536) = (z : Int) := by rw [IntKind.wrap_u64]; omega
 have f3 : (z : Int).tmod 65536 = (s : Int) := by rw [Int.tmod_eq_emod_of_nonneg (by omega)]; omega
 rw [hr] at hRt
 have u0 : (x : Int) / 4294967296 = 4200005632 := by omega
 have u4 : (x : Int) < 18446744073709551616 := by omega
 (try unfold nV at hRt)
 have hR := C3.new w (.int .i64 0) (.int .i64 0) (.int .u64 0) 71
 have hF := F3.new w (.int .i64 0) (.int .i64 0) (.int .u64 0) 71
 have i0 : (0 : Int) < (n : Int) := by omega
 have i1 : (1 : Int) < (n : Int) := by omega
 have j0 : 0 < n := by omega
 have j1 : 1 < n := by omega
 clear hC hv hn hx hy ht hs hcap hz hx64
 go_enter Tryz.func82, Tryz.ntmps82
 generalize hW : w.alloc (.cells #[.int .i64 0, .int .i64 0, .int .u64 0] 71) = W at *
 have hlw := hR.lt
 have hb1 : Below w.heap.size w W.drew := ⟨hB0.os, hB0.tape, hB0.output, hB0.size, hB0.block⟩
 have hS0 : W.drew.cell? ⟨g, off, none⟩ = some (.int .u64 (x : Nat)) ∧ W.drew.cell? ⟨g, off + 1, none⟩ = some (.int .u64 (y : Nat)) ∧ C3 W.drew w.heap.size (.int .i64 0) (.int .i64 0) (.int .u64 0) ∧ F3 W.drew w.heap.size ∧ Below w.heap.size w W.drew ∧ w.heap.size < W.drew.heap.size := ⟨c0, c1, hR, hF, hb1, hlw⟩
 go_wp2_with fail
 try rw [hW]
 refine wp_region_tail (S := (fun w' => w'.cell? ⟨g, off, none⟩ = some (.int .u64 (x : Nat)) ∧ w'.cell? ⟨g, off + 1, none⟩ = some (.int .u64 (y : Nat)) ∧ C3 w' w.heap.size (.int .i64 0) (.int .i64 0) (.int .u64 0) ∧ F3 w' w.heap.size ∧ Below w.heap.size w w' ∧ w.heap.size < w'.heap.size)) (n := 16) (by kernel_rfl) ?_ (fun hHeld hInv => ?_) (by decide)
 ·(try dsimp only)
  (first | exact hS0 | exact hHeld | (obtain ⟨q0, q1, qR, qF, qB, qS⟩ := hHeld; have hb := bZ W.drew (.cells #[.int .i64 0, .int .i64 0, .int .u64 0] 71); exact ⟨cellK q0 hb, cellK q1 hb, qR.keep hb, qF.keep qS hb, qB.trans (hb.mono (by omega)), Nat.lt_of_lt_of_le qS hb.size⟩))
 refine takeVS 0 hInv ?_; clear hInv; intro hInv
 refine takeVS 1 hInv ?_; clear hInv; intro hInv
 refine takeVS 2 hInv ?_; clear hInv; intro hInv
 refine takeVS 3 hInv ?_; clear hInv; intro hInv
 refine takeVS 4 hInv ?_; clear hInv; intro hInv
 refine takeVS 5 hInv ?_; clear hInv; intro hInv
 refine takeVS 6 hInv ?_; clear hInv; intro hInv
 refine takeVS 7 hInv ?_; clear hInv; intro hInv
 refine takeVS 8 hInv ?_; clear hInv; intro hInv
 refine takeVS 9 hInv ?_; clear hInv; intro hInv
 refine takeVS 10 hInv ?_; clear hInv; intro hInv
 refine takeVS 11 hInv ?_; clear hInv; intro hInv
 refine takeVS 12 hInv ?_; clear hInv; intro hInv
 refine takeVS 13 hInv ?_; clear hInv; intro hInv
 refine takeVS 14 hInv ?_; clear hInv; intro hInv
 refine oneS 15 hInv (by decide) rfl (by kernel_rfl) (fun K hK => ?_)
 go_simp
 skip
 refine hK.out _ _ ?_ (fun hHeld2 hInv2 => ?_)
 ·(try dsimp only)
  (first | exact hS0 | exact hHeld | (obtain ⟨q0, q1, qR, qF, qB, qS⟩ := hHeld; have hb := bZ W.drew (.cells #[.int .i64 0, .int .i64 0, .int .u64 0] 71); exact ⟨cellK q0 hb, cellK q1 hb, qR.keep hb, qF.keep qS hb, qB.trans (hb.mono (by omega)), Nat.lt_of_lt_of_le qS hb.size⟩))
 clear hK K hHeld hInv
 have hHeld := hHeld2
 have hInv := hInv2
 clear hHeld2 hInv2
 try simp only [Act.put,sA,sB,sC] at hInv ⊢
 refine lastS 16 rfl (by decide) (by kernel_rfl) (fun K hK => ?_)
 go_simp
 refine hK.out _ _ ?_
 clear hK K
 try simp only [Act.put,sA,sB,sC]
 refine wpAnyS_done (by kernel_rfl) ?_ _
 obtain ⟨V, hV⟩ : ∃ V : World, V = (W.alloc (.cells #[.int .i64 (t : Nat), .int .i64 (s : Nat), .int .u64 (y : Nat)] (71 : Nat))).drew := ⟨_, rfl⟩
 have hbV : Below W.heap.size W V := by rw [hV]; exact (bZ W _).drew
 have hkV : C3 V W.heap.size (.int .i64 (t : Nat)) (.int .i64 (s : Nat)) (.int .u64 (y : Nat)) := by rw [hV]; exact C3.new _ _ _ _ _
 rw [← hV]
 have v0 := cellK c0 hbV
 have hRV := hR.keep hbV
 have hFV := hF.keep hlw hbV
 have hBV : Below w.heap.size w V := hB0.trans (hbV.mono (by omega))
 have hlV : w.heap.size < V.heap.size := Nat.lt_of_lt_of_le hlw hbV.size
 clear hV hHeld hInv hbV hS0 c0 c1 hR hF hb1 hB0 hW e1 e2 f1 f2 f3
 obtain ⟨B9, hB9⟩ : ∃ B9, W.heap.size = B9 := ⟨_, rfl⟩
 rw [hB9] at hkV hg hlw ⊢
 clear hB9
 obtain ⟨k0, k1, k2⟩ := id hkV
 (try simp only [Exit.inBlock, Exit.then])
 go_wp2_with fail
 refine (hRt.out _).mono ?_
 rintro e w5 ⟨rfl, hb⟩
 clear k0 k1 k2
 have z0 := cellK v0 hb
 obtain ⟨d0, d1, d2⟩ := hRV.keep hb
 obtain ⟨f0, f1, f2⟩ := hFV.keep hlV hb
 obtain ⟨k0, k1, k2⟩ := hkV.keep hb
 have qB : Below w.heap.size w w5 := hBV.trans (hb.mono (by omega))
 clear hb v0 hRV hFV hkV hBV hRt
 (try simp only [Exit.inBlock, Exit.then])
 go_wp2_with fail
 (try simp only [Exit.inBlock, Exit.then])
 obtain ⟨w6, h6, ⟨t0, t1, t2⟩, hb5⟩ := st3_ex qB (Nat.le_refl _) d0 d1 d2 (t : Nat) (s : Nat) (y : Nat)
 rw [← h6]
 refine bodyPost_ret (v := .tuple #[nV (t : Nat) (s : Nat) (y : Nat), .bool true]) (by simp [nV, results, Tryz.results82, go_sem, t0, t1, t2]) rfl ⟨rfl, hb5⟩
theorem refDecode_sign (v : Value) (l : List Nat) (x y : Nat) (w : World) (hv : KL .u64 w v l) (h2 : ¬ l.length < 2) (hx : l.getD 0 0 = x) (hy : l.getD 1 0 = y) (hx64 : x < 18446744073709551616) (t s : Nat) (ht : x % 65536 = t) (hs : x / 65536 % 65536 = s) (hr : hdB t s y = true) (hsg : ¬ x / 4294967296 = 4200005632) :
 Calls Tryz.prog 82 #[v] w fun e w' => e = .returned (.tuple #[nV 0 0 0, .bool false]) ∧ Below w.heap.size w w' := by
 obtain ⟨n, hn⟩ : ∃ n, l.length = n := ⟨_, rfl⟩
 obtain ⟨A, cap, rfl, hC⟩ := hv.form hn
 rw [hn] at h2
 have h2' : ¬ (n : Int) < 2 := by omega
 have hB0 : Below w.heap.size w (w.alloc (.cells #[.int .i64 0, .int .i64 0, .int .u64 0] 71)) := bZ _ _
 obtain ⟨g, off, rfl, hcap, hg, c0⟩ := hC (w.alloc (.cells #[.int .i64 0, .int .i64 0, .int .u64 0] 71)) 0 hB0 (by omega)
 obtain ⟨g', off', he, _, _, c1⟩ := hC (w.alloc (.cells #[.int .i64 0, .int .i64 0, .int .u64 0] 71)) 1 hB0 (by omega)
 cases he
 rw [hx, Nat.add_zero] at c0
 rw [hy] at c1
 have hRt := lh (fun w => refRight_any_oc t s y w (by omega))
 have e1 : IntKind.i64.wrap (t : Int) = (t : Int) := by rw [IntKind.wrap_i64]; omega
 have e2 : IntKind.i64.wrap (s : Int) = (s : Int) := by rw [IntKind.wrap_i64]; omega
 obtain ⟨z, hz⟩ : ∃ z : Nat, x / 65536 = z := ⟨_, rfl⟩
 have f1 : (x : Int).tmod 65536 = (t : Int) := by rw [Int.tmod_eq_emod_of_nonneg (by omega)]; omega
 have f2 : IntKind.u64.wrap ((x : Int) / 65536) = (z : Int) := by rw [IntKind.wrap_u64]; omega
 have f3 : (z : Int).tmod 65536 = (s : Int) := by rw [Int.tmod_eq_emod_of_nonneg (by omega)]; omega
 rw [hr] at hRt
 obtain ⟨q, hq⟩ : ∃ q : Nat, (x : Int) / 4294967296 = (q : Int) := ⟨x / 4294967296, by omega⟩
 have u1 : ((q : Int) == 4200005632) = false := by rw [beq_eq_false_iff_ne]; omega
 have u2 : ((q : Int) != 4200005632) = true := by rw [bne_iff_ne]; omega
 have u3 : ¬ (q : Int) = 4200005632 := by omega
 clear hsg
 have u4 : (x : Int) < 18446744073709551616 := by omega
 (try unfold nV at hRt)
 have hR := C3.new w (.int .i64 0) (.int .i64 0) (.int .u64 0) 71
 have hF := F3.new w (.int .i64 0) (.int .i64 0) (.int .u64 0) 71
 have i0 : (0 : Int) < (n : Int) := by omega
 have i1 : (1 : Int) < (n : Int) := by omega
 have j0 : 0 < n := by omega
 have j1 : 1 < n := by omega
 clear hC hv hn hx hy ht hs hcap hz hx64
 go_enter Tryz.func82, Tryz.ntmps82
 generalize hW : w.alloc (.cells #[.int .i64 0, .int .i64 0, .int .u64 0] 71) = W at *
 have hlw := hR.lt
 have hb1 : Below w.heap.size w W.drew := ⟨hB0.os, hB0.tape, hB0.output, hB0.size, hB0.block⟩
 have hS0 : W.drew.cell? ⟨g, off, none⟩ = some (.int .u64 (x : Nat)) ∧ W.drew.cell? ⟨g, off + 1, none⟩ = some (.int .u64 (y : Nat)) ∧ C3 W.drew w.heap.size (.int .i64 0) (.int .i64 0) (.int .u64 0) ∧ F3 W.drew w.heap.size ∧ Below w.heap.size w W.drew ∧ w.heap.size < W.drew.heap.size := ⟨c0, c1, hR, hF, hb1, hlw⟩
 go_wp2_with fail
 try rw [hW]
 refine wp_region_tail (S := (fun w' => w'.cell? ⟨g, off, none⟩ = some (.int .u64 (x : Nat)) ∧ w'.cell? ⟨g, off + 1, none⟩ = some (.int .u64 (y : Nat)) ∧ C3 w' w.heap.size (.int .i64 0) (.int .i64 0) (.int .u64 0) ∧ F3 w' w.heap.size ∧ Below w.heap.size w w' ∧ w.heap.size < w'.heap.size)) (n := 16) (by kernel_rfl) ?_ (fun hHeld hInv => ?_) (by decide)
 ·(try dsimp only)
  (first | exact hS0 | exact hHeld | (obtain ⟨q0, q1, qR, qF, qB, qS⟩ := hHeld; have hb := bZ W.drew (.cells #[.int .i64 0, .int .i64 0, .int .u64 0] 71); exact ⟨cellK q0 hb, cellK q1 hb, qR.keep hb, qF.keep qS hb, qB.trans (hb.mono (by omega)), Nat.lt_of_lt_of_le qS hb.size⟩))
 refine takeVS 0 hInv ?_; clear hInv; intro hInv
 refine takeVS 1 hInv ?_; clear hInv; intro hInv
 refine takeVS 2 hInv ?_; clear hInv; intro hInv
 refine takeVS 3 hInv ?_; clear hInv; intro hInv
 refine takeVS 4 hInv ?_; clear hInv; intro hInv
 refine takeVS 5 hInv ?_; clear hInv; intro hInv
 refine takeVS 6 hInv ?_; clear hInv; intro hInv
 refine takeVS 7 hInv ?_; clear hInv; intro hInv
 refine takeVS 8 hInv ?_; clear hInv; intro hInv
 refine takeVS 9 hInv ?_; clear hInv; intro hInv
 refine takeVS 10 hInv ?_; clear hInv; intro hInv
 refine takeVS 11 hInv ?_; clear hInv; intro hInv
 refine takeVS 12 hInv ?_; clear hInv; intro hInv
 refine takeVS 13 hInv ?_; clear hInv; intro hInv
 refine takeVS 14 hInv ?_; clear hInv; intro hInv
 refine oneS 15 hInv (by decide) rfl (by kernel_rfl) (fun K hK => ?_)
 go_simp
 skip
 refine hK.out _ _ ?_ (fun hHeld2 hInv2 => ?_)
 ·(try dsimp only)
  (first | exact hS0 | exact hHeld | (obtain ⟨q0, q1, qR, qF, qB, qS⟩ := hHeld; have hb := bZ W.drew (.cells #[.int .i64 0, .int .i64 0, .int .u64 0] 71); exact ⟨cellK q0 hb, cellK q1 hb, qR.keep hb, qF.keep qS hb, qB.trans (hb.mono (by omega)), Nat.lt_of_lt_of_le qS hb.size⟩))
 clear hK K hHeld hInv
 have hHeld := hHeld2
 have hInv := hInv2
 clear hHeld2 hInv2
 try simp only [Act.put,sA,sB,sC] at hInv ⊢
 refine lastS 16 rfl (by decide) (by kernel_rfl) (fun K hK => ?_)
 go_simp
 refine hK.out _ _ ?_
 clear hK K
 try simp only [Act.put,sA,sB,sC]
 refine wpAnyS_done (by kernel_rfl) ?_ _
 obtain ⟨V, hV⟩ : ∃ V : World, V = (W.alloc (.cells #[.int .i64 (t : Nat), .int .i64 (s : Nat), .int .u64 (y : Nat)] (71 : Nat))).drew := ⟨_, rfl⟩
 have hbV : Below W.heap.size W V := by rw [hV]; exact (bZ W _).drew
 have hkV : C3 V W.heap.size (.int .i64 (t : Nat)) (.int .i64 (s : Nat)) (.int .u64 (y : Nat)) := by rw [hV]; exact C3.new _ _ _ _ _
 rw [← hV]
 have v0 := cellK c0 hbV
 have hRV := hR.keep hbV
 have hFV := hF.keep hlw hbV
 have hBV : Below w.heap.size w V := hB0.trans (hbV.mono (by omega))
 have hlV : w.heap.size < V.heap.size := Nat.lt_of_lt_of_le hlw hbV.size
 clear hV hHeld hInv hbV hS0 c0 c1 hR hF hb1 hB0 hW e1 e2 f1 f2 f3
 obtain ⟨B9, hB9⟩ : ∃ B9, W.heap.size = B9 := ⟨_, rfl⟩
 rw [hB9] at hkV hg hlw ⊢
 clear hB9
 obtain ⟨k0, k1, k2⟩ := id hkV
 (try simp only [Exit.inBlock, Exit.then])
 go_wp2_with fail
 refine (hRt.out _).mono ?_
 rintro e w5 ⟨rfl, hb⟩
 clear k0 k1 k2
 have z0 := cellK v0 hb
 obtain ⟨d0, d1, d2⟩ := hRV.keep hb
 obtain ⟨f0, f1, f2⟩ := hFV.keep hlV hb
 obtain ⟨k0, k1, k2⟩ := hkV.keep hb
 have qB : Below w.heap.size w w5 := hBV.trans (hb.mono (by omega))
 clear hb v0 hRV hFV hkV hBV hRt
 (try simp only [Exit.inBlock, Exit.then])
 go_wp2_with fail
 (try simp only [Exit.inBlock, Exit.then])
 obtain ⟨w6, h6, ⟨t0, t1, t2⟩, hb5⟩ := st3_ex qB (Nat.le_refl _) d0 d1 d2 0 0 0
 rw [← h6]
 refine bodyPost_ret (v := .tuple #[nV 0 0 0, .bool false]) (by simp [nV, results, Tryz.results82, go_sem, t0, t1, t2]) rfl ⟨rfl, hb5⟩
theorem refDecode_no (v : Value) (l : List Nat) (x y : Nat) (w : World) (hv : KL .u64 w v l) (h2 : ¬ l.length < 2) (hx : l.getD 0 0 = x) (hy : l.getD 1 0 = y) (hx64 : x < 18446744073709551616) (t s : Nat) (ht : x % 65536 = t) (hs : x / 65536 % 65536 = s) (hr : hdB t s y = false) :
 Calls Tryz.prog 82 #[v] w fun e w' => e = .returned (.tuple #[nV 0 0 0, .bool false]) ∧ Below w.heap.size w w' := by
 obtain ⟨n, hn⟩ : ∃ n, l.length = n := ⟨_, rfl⟩
 obtain ⟨A, cap, rfl, hC⟩ := hv.form hn
 rw [hn] at h2
 have h2' : ¬ (n : Int) < 2 := by omega
 have hB0 : Below w.heap.size w (w.alloc (.cells #[.int .i64 0, .int .i64 0, .int .u64 0] 71)) := bZ _ _
 obtain ⟨g, off, rfl, hcap, hg, c0⟩ := hC (w.alloc (.cells #[.int .i64 0, .int .i64 0, .int .u64 0] 71)) 0 hB0 (by omega)
 obtain ⟨g', off', he, _, _, c1⟩ := hC (w.alloc (.cells #[.int .i64 0, .int .i64 0, .int .u64 0] 71)) 1 hB0 (by omega)
 cases he
 rw [hx, Nat.add_zero] at c0
 rw [hy] at c1
 have hRt := lh (fun w => refRight_any_oc t s y w (by omega))
 have e1 : IntKind.i64.wrap (t : Int) = (t : Int) := by rw [IntKind.wrap_i64]; omega
 have e2 : IntKind.i64.wrap (s : Int) = (s : Int) := by rw [IntKind.wrap_i64]; omega
 obtain ⟨z, hz⟩ : ∃ z : Nat, x / 65536 = z := ⟨_, rfl⟩
 have f1 : (x : Int).tmod 65536 = (t : Int) := by rw [Int.tmod_eq_emod_of_nonneg (by omega)]; omega
 have f2 : IntKind.u64.wrap ((x : Int) / 65536) = (z : Int) := by rw [IntKind.wrap_u64]; omega
 have f3 : (z : Int).tmod 65536 = (s : Int) := by rw [Int.tmod_eq_emod_of_nonneg (by omega)]; omega
 rw [hr] at hRt
 (try unfold nV at hRt)
 have hR := C3.new w (.int .i64 0) (.int .i64 0) (.int .u64 0) 71
 have hF := F3.new w (.int .i64 0) (.int .i64 0) (.int .u64 0) 71
 have i0 : (0 : Int) < (n : Int) := by omega
 have i1 : (1 : Int) < (n : Int) := by omega
 have j0 : 0 < n := by omega
 have j1 : 1 < n := by omega
 clear hC hv hn hx hy ht hs hcap hz hx64
 go_enter Tryz.func82, Tryz.ntmps82
 generalize hW : w.alloc (.cells #[.int .i64 0, .int .i64 0, .int .u64 0] 71) = W at *
 have hlw := hR.lt
 have hb1 : Below w.heap.size w W.drew := ⟨hB0.os, hB0.tape, hB0.output, hB0.size, hB0.block⟩
 have hS0 : W.drew.cell? ⟨g, off, none⟩ = some (.int .u64 (x : Nat)) ∧ W.drew.cell? ⟨g, off + 1, none⟩ = some (.int .u64 (y : Nat)) ∧ C3 W.drew w.heap.size (.int .i64 0) (.int .i64 0) (.int .u64 0) ∧ F3 W.drew w.heap.size ∧ Below w.heap.size w W.drew ∧ w.heap.size < W.drew.heap.size := ⟨c0, c1, hR, hF, hb1, hlw⟩
 go_wp2_with fail
 try rw [hW]
 refine wp_region_tail (S := (fun w' => w'.cell? ⟨g, off, none⟩ = some (.int .u64 (x : Nat)) ∧ w'.cell? ⟨g, off + 1, none⟩ = some (.int .u64 (y : Nat)) ∧ C3 w' w.heap.size (.int .i64 0) (.int .i64 0) (.int .u64 0) ∧ F3 w' w.heap.size ∧ Below w.heap.size w w' ∧ w.heap.size < w'.heap.size)) (n := 16) (by kernel_rfl) ?_ (fun hHeld hInv => ?_) (by decide)
 ·(try dsimp only)
  (first | exact hS0 | exact hHeld | (obtain ⟨q0, q1, qR, qF, qB, qS⟩ := hHeld; have hb := bZ W.drew (.cells #[.int .i64 0, .int .i64 0, .int .u64 0] 71); exact ⟨cellK q0 hb, cellK q1 hb, qR.keep hb, qF.keep qS hb, qB.trans (hb.mono (by omega)), Nat.lt_of_lt_of_le qS hb.size⟩))
 refine takeVS 0 hInv ?_; clear hInv; intro hInv
 refine takeVS 1 hInv ?_; clear hInv; intro hInv
 refine takeVS 2 hInv ?_; clear hInv; intro hInv
 refine takeVS 3 hInv ?_; clear hInv; intro hInv
 refine takeVS 4 hInv ?_; clear hInv; intro hInv
 refine takeVS 5 hInv ?_; clear hInv; intro hInv
 refine takeVS 6 hInv ?_; clear hInv; intro hInv
 refine takeVS 7 hInv ?_; clear hInv; intro hInv
 refine takeVS 8 hInv ?_; clear hInv; intro hInv
 refine takeVS 9 hInv ?_; clear hInv; intro hInv
 refine takeVS 10 hInv ?_; clear hInv; intro hInv
 refine takeVS 11 hInv ?_; clear hInv; intro hInv
 refine takeVS 12 hInv ?_; clear hInv; intro hInv
 refine takeVS 13 hInv ?_; clear hInv; intro hInv
 refine takeVS 14 hInv ?_; clear hInv; intro hInv
 refine oneS 15 hInv (by decide) rfl (by kernel_rfl) (fun K hK => ?_)
 go_simp
 skip
 refine hK.out _ _ ?_ (fun hHeld2 hInv2 => ?_)
 ·(try dsimp only)
  (first | exact hS0 | exact hHeld | (obtain ⟨q0, q1, qR, qF, qB, qS⟩ := hHeld; have hb := bZ W.drew (.cells #[.int .i64 0, .int .i64 0, .int .u64 0] 71); exact ⟨cellK q0 hb, cellK q1 hb, qR.keep hb, qF.keep qS hb, qB.trans (hb.mono (by omega)), Nat.lt_of_lt_of_le qS hb.size⟩))
 clear hK K hHeld hInv
 have hHeld := hHeld2
 have hInv := hInv2
 clear hHeld2 hInv2
 try simp only [Act.put,sA,sB,sC] at hInv ⊢
 refine lastS 16 rfl (by decide) (by kernel_rfl) (fun K hK => ?_)
 go_simp
 refine hK.out _ _ ?_
 clear hK K
 try simp only [Act.put,sA,sB,sC]
 refine wpAnyS_done (by kernel_rfl) ?_ _
 obtain ⟨V, hV⟩ : ∃ V : World, V = (W.alloc (.cells #[.int .i64 (t : Nat), .int .i64 (s : Nat), .int .u64 (y : Nat)] (71 : Nat))).drew := ⟨_, rfl⟩
 have hbV : Below W.heap.size W V := by rw [hV]; exact (bZ W _).drew
 have hkV : C3 V W.heap.size (.int .i64 (t : Nat)) (.int .i64 (s : Nat)) (.int .u64 (y : Nat)) := by rw [hV]; exact C3.new _ _ _ _ _
 rw [← hV]
 have v0 := cellK c0 hbV
 have hRV := hR.keep hbV
 have hFV := hF.keep hlw hbV
 have hBV : Below w.heap.size w V := hB0.trans (hbV.mono (by omega))
 have hlV : w.heap.size < V.heap.size := Nat.lt_of_lt_of_le hlw hbV.size
 clear hV hHeld hInv hbV hS0 c0 c1 hR hF hb1 hB0 hW e1 e2 f1 f2 f3
 obtain ⟨B9, hB9⟩ : ∃ B9, W.heap.size = B9 := ⟨_, rfl⟩
 rw [hB9] at hkV hg hlw ⊢
 clear hB9
 obtain ⟨k0, k1, k2⟩ := id hkV
 (try simp only [Exit.inBlock, Exit.then])
 go_wp2_with fail
 refine (hRt.out _).mono ?_
 rintro e w5 ⟨rfl, hb⟩
 clear k0 k1 k2
 have z0 := cellK v0 hb
 obtain ⟨d0, d1, d2⟩ := hRV.keep hb
 obtain ⟨f0, f1, f2⟩ := hFV.keep hlV hb
 obtain ⟨k0, k1, k2⟩ := hkV.keep hb
 have qB : Below w.heap.size w w5 := hBV.trans (hb.mono (by omega))
 clear hb v0 hRV hFV hkV hBV hRt
 (try simp only [Exit.inBlock, Exit.then])
 go_wp2_with fail
 (try simp only [Exit.inBlock, Exit.then])
 obtain ⟨w6, h6, ⟨t0, t1, t2⟩, hb5⟩ := st3_ex qB (Nat.le_refl _) d0 d1 d2 0 0 0
 rw [← h6]
 refine bodyPost_ret (v := .tuple #[nV 0 0 0, .bool false]) (by simp [nV, results, Tryz.results82, go_sem, t0, t1, t2]) rfl ⟨rfl, hb5⟩
theorem refDecode_any_oc (v : Value) (l : List Nat) (w : World) (hv : KL .u64 w v l) (h64 : ∀ x ∈ l, x < 18446744073709551616) :
 Calls Tryz.prog 82 #[v] w fun e w' => e = .returned (.tuple #[pV (decH l), .bool (decH l).isSome]) ∧ Below w.heap.size w w' := by
 by_cases h2 : l.length < 2
 ·have e : decH l = none := by unfold decH; rw [if_pos h2]
  rw [e]; exact refDecode_short v l w hv h2
 ·have hx : l.getD 0 0 < 18446744073709551616 := by
   refine h64 _ ?_
   rw [List.getD_eq_getElem?_getD, List.getElem?_eq_getElem (by omega)]; exact List.getElem_mem _
  by_cases hr : hdB (l.getD 0 0 % 65536 : Nat) (l.getD 0 0 / 65536 % 65536 : Nat) (l.getD 1 0 : Nat) = true
  ·by_cases hs : l.getD 0 0 / 4294967296 = 4200005632
   ·have e : decH l = some (l.getD 0 0 % 65536, l.getD 0 0 / 65536 % 65536, l.getD 1 0) := by
     unfold decH; rw [if_neg h2, hr, decide_eq_true hs]; rfl
    rw [e]
    exact refDecode_yes v l _ _ w hv h2 rfl rfl hx _ _ rfl rfl hr hs
   ·have e : decH l = none := by
     unfold decH; rw [if_neg h2, hr, decide_eq_false hs]; rfl
    rw [e]
    exact refDecode_sign v l _ _ w hv h2 rfl rfl hx _ _ rfl rfl hr hs
  ·have e : decH l = none := by
    unfold decH; rw [if_neg h2, eq_false_of_ne_true hr]; rfl
   rw [e]
   exact refDecode_no v l _ _ w hv h2 rfl rfl hx _ _ rfl rfl (eq_false_of_ne_true hr)
end Go.Proofs.YtdmmbnnejbmdpaaGreatDoor
end
