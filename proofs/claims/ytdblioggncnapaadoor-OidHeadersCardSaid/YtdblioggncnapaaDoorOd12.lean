/-
  Package oid: the document's Encode, Decode; OidHeaders.
-/
import Derived.Test.YtdblioggncnapaaDoorOd11
set_option linter.unusedVariables false
set_option linter.unusedSimpArgs false
set_option maxRecDepth 100000
namespace Go.Proofs.YtdblioggncnapaaDoor
open Go.RowKit Go.Lib
/-- a header's words, and the error -/
def encR (t s n : Int) : List Nat × Int := if hdB t s n then ([hdW t.toNat s.toNat, n.toNat], 0) else ([], 1)
def EncP (w : World) (t s n : Int) (e : Ending) (w' : World) : Prop := ∃ v, e = .returned (.tuple #[v, .int .i64 (encR t s n).2]) ∧ KL .u64 w' v (encR t s n).1 ∧ Below w.heap.size w w'
theorem KL.nil (K : IntKind) (w : World) : KL K w (.slice none 0 0) [] := ⟨none, 0, rfl, fun h => by simp at h⟩
theorem encode_any (t s n : Int) (w : World) (hn : 0 ≤ n) : Calls Tryd.prog 9 #[nV t s n] w (EncP w t s n) := by
  unfold EncP encR
  by_cases k : hdB t s n = true
  · have hh := hd_t.1 k
    obtain ⟨t, rfl⟩ := Int.eq_ofNat_of_zero_le (show 0 ≤ t by omega)
    obtain ⟨s, rfl⟩ := Int.eq_ofNat_of_zero_le (show 0 ≤ s by omega)
    obtain ⟨n, rfl⟩ := Int.eq_ofNat_of_zero_le hn
    rw [if_pos k]
    exact (encode_yes t s n w hn k).mono fun e w' ⟨g, he, _, hC, hb⟩ => ⟨_, he, hC.kl, hb⟩
  · rw [if_neg k]
    exact (encode_no t s n w hn (eq_false_of_ne_true k)).mono fun e w' ⟨he, hb⟩ => ⟨_, he, KL.nil _ _, hb⟩
set_option maxHeartbeats 1000000 in
theorem refEncode_any (t s n : Int) (w : World) (hn : 0 ≤ n) : Calls Tryd.prog 10 #[nV t s n] w (EncP w t s n) := by
  have hR := Lib.hid (fun w => refRight_any t s n w hn)
  have hC := C3.new w (.int .i64 t) (.int .i64 s) (.int .u64 n) 24
  have hB := below1 w (.cells #[.int .i64 t, .int .i64 s, .int .u64 n] 24)
  by_cases k : hdB t s n = true
  · have hh := hd_t.1 k
    have hE : encR t s n = ([hdW t.toNat s.toNat, n.toNat], 0) := by unfold encR; rw [if_pos k]
    rw [k] at hR
    obtain ⟨t, rfl⟩ := Int.eq_ofNat_of_zero_le (show 0 ≤ t by omega)
    obtain ⟨s, rfl⟩ := Int.eq_ofNat_of_zero_le (show 0 ≤ s by omega)
    obtain ⟨n, rfl⟩ := Int.eq_ofNat_of_zero_le hn
    have c1 : IntKind.u64.wrap (t : Int) = (t : Int) := by rw [IntKind.wrap_u64]; omega
    have c2 : IntKind.u64.wrap (s : Int) = (s : Int) := by rw [IntKind.wrap_u64]; omega
    have b1 : (t : Int) ≤ 65535 := by omega
    have b2 : (s : Int) ≤ 4096 := by omega
    have hx := Lib.hid (show (18038886832455811072 : Int) + 65536 * (s : Int) + (t : Int) = (hdW t s : Nat) by unfold hdW; omega)
    replace hE := Lib.hid hE
    unfold nV at *
    clear hh k hn
    go_enter Tryd.func10, Tryd.ntmps10
    go_wp2_with fail
    refine (hR.out _).mono ?_
    rintro e w1 ⟨rfl, hb⟩
    obtain ⟨d0, d1, d2⟩ := hC.keep hb
    have hB1 := hB.trans (hb.mono hB.size)
    clear hC hB hb
    go_wp2_with fail
    rw [hx.out]
    go_ret2
    unfold EncP
    rw [hE.out]
    exact ⟨_, rfl, C2.kl (C2.new _ _ _ _), hB1.alloc hB1.size _⟩
  · have hE : encR t s n = ([], 1) := by unfold encR; rw [if_neg k]
    rw [eq_false_of_ne_true k] at hR
    replace hE := Lib.hid hE
    unfold nV at *
    clear k hn
    go_enter Tryd.func10, Tryd.ntmps10
    go_wp2_with fail
    refine (hR.out _).mono ?_
    rintro e w1 ⟨rfl, hb⟩
    have hB1 := hB.trans (hb.mono hB.size)
    clear hC hB hb
    go_wp2_with fail
    go_ret2
    unfold EncP
    rw [hE.out]
    exact ⟨_, rfl, KL.nil _ _, hB1⟩
set_option maxHeartbeats 1000000 in
theorem refDecode_short (v : Value) (l : List Nat) (w : World) (hv : KL .u64 w v l) (h : l.length < 2) :
    Calls Tryd.prog 12 #[v] w fun e w' => e = .returned (.tuple #[nV 0 0 0, .bool false]) ∧ Below w.heap.size w w' := by
  obtain ⟨n, hn⟩ : ∃ n, l.length = n := ⟨_, rfl⟩
  obtain ⟨A, cap, rfl, hC⟩ := hv.form hn
  rw [hn] at h
  have h' : (n : Int) < 2 := by omega
  clear hC hv hn
  have hR := C3.new w (.int .i64 0) (.int .i64 0) (.int .u64 0) 24
  have hF := F3.new w (.int .i64 0) (.int .i64 0) (.int .u64 0) 24
  go_enter Tryd.func12, Tryd.ntmps12
  have hB : Below w.heap.size w (w.alloc (.cells #[.int .i64 0, .int .i64 0, .int .u64 0] 24)) := (Below.refl _ _).alloc (Nat.le_refl _) _
  go_wp2_with fail
  refine bodyPost_ret (v := .tuple #[nV 0 0 0, .bool false]) (by simp [nV, results, Tryd.results12, go_sem]) rfl ⟨rfl, ?_⟩
  go_grown
set_option maxHeartbeats 2000000 in
theorem refDecode_yes (v : Value) (l : List Nat) (x y : Nat) (w : World) (hv : KL .u64 w v l) (h2 : ¬ l.length < 2) (hx : l.getD 0 0 = x) (hy : l.getD 1 0 = y) (hx64 : x < 18446744073709551616) (t s : Nat) (ht : x % 65536 = t) (hs : x / 65536 % 65536 = s) (hr : hdB t s y = true) (hsg : x / 4294967296 = 4200005632) :
    Calls Tryd.prog 12 #[v] w fun e w' => e = .returned (.tuple #[nV (t : Nat) (s : Nat) (y : Nat), .bool true]) ∧ Below w.heap.size w w' := by
  obtain ⟨n, hn⟩ : ∃ n, l.length = n := ⟨_, rfl⟩
  obtain ⟨A, cap, rfl, hC⟩ := hv.form hn
  rw [hn] at h2
  have h2' : ¬ (n : Int) < 2 := by omega
  have hB0 : Below w.heap.size w (w.alloc (.cells #[.int .i64 0, .int .i64 0, .int .u64 0] 24)) := (Below.refl _ _).alloc (Nat.le_refl _) _
  obtain ⟨g, off, rfl, hcap, hg, c0⟩ := hC (w.alloc (.cells #[.int .i64 0, .int .i64 0, .int .u64 0] 24)) 0 hB0 (by omega)
  obtain ⟨g', off', he, _, _, c1⟩ := hC (w.alloc (.cells #[.int .i64 0, .int .i64 0, .int .u64 0] 24)) 1 hB0 (by omega)
  cases he
  rw [hx, Nat.add_zero] at c0
  rw [hy] at c1
  have hRt := Lib.hid (fun w => refRight_any t s y w (by omega))
  have e1 : IntKind.i64.wrap (t : Int) = (t : Int) := by rw [IntKind.wrap_i64]; omega
  have e2 : IntKind.i64.wrap (s : Int) = (s : Int) := by rw [IntKind.wrap_i64]; omega
  obtain ⟨z, hz⟩ : ∃ z : Nat, x / 65536 = z := ⟨_, rfl⟩
  have f1 : (x : Int).tmod 65536 = (t : Int) := by rw [Int.tmod_eq_emod_of_nonneg (by omega)]; omega
  have f2 : IntKind.u64.wrap ((x : Int) / 65536) = (z : Int) := by rw [IntKind.wrap_u64]; omega
  have f3 : (z : Int).tmod 65536 = (s : Int) := by rw [Int.tmod_eq_emod_of_nonneg (by omega)]; omega
  rw [hr] at hRt
  have u0 : (x : Int) / 4294967296 = 4200005632 := by omega
  have u4 : (x : Int) < 18446744073709551616 := by omega
  (try unfold nV at hRt)
  have hR := C3.new w (.int .i64 0) (.int .i64 0) (.int .u64 0) 24
  have hF := F3.new w (.int .i64 0) (.int .i64 0) (.int .u64 0) 24
  have i0 : (0 : Int) < (n : Int) := by omega
  have i1 : (1 : Int) < (n : Int) := by omega
  have j0 : 0 < n := by omega
  have j1 : 1 < n := by omega
  clear hC hv hn hx hy ht hs hcap hz hx64
  go_enter Tryd.func12, Tryd.ntmps12
  generalize hW : w.alloc (.cells #[.int .i64 0, .int .i64 0, .int .u64 0] 24) = W at *
  have hlw := hR.lt
  have hb1 : Below w.heap.size w W.drew := ⟨hB0.os, hB0.tape, hB0.output, hB0.size, hB0.block⟩
  have hS0 : W.drew.cell? ⟨g, off, none⟩ = some (.int .u64 (x : Nat)) ∧ W.drew.cell? ⟨g, off + 1, none⟩ = some (.int .u64 (y : Nat)) ∧ C3 W.drew w.heap.size (.int .i64 0) (.int .i64 0) (.int .u64 0) ∧ F3 W.drew w.heap.size ∧ Below w.heap.size w W.drew ∧ w.heap.size < W.drew.heap.size := ⟨c0, c1, hR, hF, hb1, hlw⟩
  go_wp2_with fail
  try rw [hW]
  refine wp_region_tail (S := (fun w' => w'.cell? ⟨g, off, none⟩ = some (.int .u64 (x : Nat)) ∧ w'.cell? ⟨g, off + 1, none⟩ = some (.int .u64 (y : Nat)) ∧ C3 w' w.heap.size (.int .i64 0) (.int .i64 0) (.int .u64 0) ∧ F3 w' w.heap.size ∧ Below w.heap.size w w' ∧ w.heap.size < w'.heap.size)) (n := 16) (by kernel_rfl) ?_ (fun hHeld hInv => ?_) (by decide)
  · (try dsimp only)
    (first | exact hS0 | exact hHeld | (obtain ⟨q0, q1, qR, qF, qB, qS⟩ := hHeld; have hb := (Below.refl W.drew.heap.size W.drew).alloc (Nat.le_refl _) (.cells #[.int .i64 0, .int .i64 0, .int .u64 0] 24); exact ⟨cellK q0 hb, cellK q1 hb, qR.keep hb, qF.keep qS hb, qB.trans (hb.mono (by omega)), Nat.lt_of_lt_of_le qS hb.size⟩))
  refine takeS 0 (v := ?_) (tailAt (by kernel_rfl)) hInv (by decide) rfl (by kernel_rfl) (by kernel_rfl) (by kernel_rfl) (fun _ _ _ h => h) (by rfl) (by assumption) ?_ (fun hInv2 => ?_)
  rotate_left
  · (intro w hSw; (try dsimp only at hSw); (try go_split_ands); go_simp <;> with_reducible rfl)
  clear hInv
  have hInv := hInv2
  clear hInv2
  try simp only [Act.put, List.setIfInBounds_toArray, List.set_cons_zero, List.set_cons_succ] at hInv ⊢
  refine takeS 1 (v := ?_) (tailAt (by kernel_rfl)) hInv (by decide) rfl (by kernel_rfl) (by kernel_rfl) (by kernel_rfl) (fun _ _ _ h => h) (by rfl) (by assumption) ?_ (fun hInv2 => ?_)
  rotate_left
  · (intro w hSw; (try dsimp only at hSw); (try go_split_ands); go_simp <;> with_reducible rfl)
  clear hInv
  have hInv := hInv2
  clear hInv2
  try simp only [Act.put, List.setIfInBounds_toArray, List.set_cons_zero, List.set_cons_succ] at hInv ⊢
  refine takeS 2 (v := ?_) (tailAt (by kernel_rfl)) hInv (by decide) rfl (by kernel_rfl) (by kernel_rfl) (by kernel_rfl) (fun _ _ _ h => h) (by rfl) (by assumption) ?_ (fun hInv2 => ?_)
  rotate_left
  · (intro w hSw; (try dsimp only at hSw); (try go_split_ands); go_simp <;> with_reducible rfl)
  clear hInv
  have hInv := hInv2
  clear hInv2
  try simp only [Act.put, List.setIfInBounds_toArray, List.set_cons_zero, List.set_cons_succ] at hInv ⊢
  refine takeS 3 (v := ?_) (tailAt (by kernel_rfl)) hInv (by decide) rfl (by kernel_rfl) (by kernel_rfl) (by kernel_rfl) (fun _ _ _ h => h) (by rfl) (by assumption) ?_ (fun hInv2 => ?_)
  rotate_left
  · (intro w hSw; (try dsimp only at hSw); (try go_split_ands); go_simp <;> with_reducible rfl)
  clear hInv
  have hInv := hInv2
  clear hInv2
  try simp only [Act.put, List.setIfInBounds_toArray, List.set_cons_zero, List.set_cons_succ] at hInv ⊢
  refine takeS 4 (v := ?_) (tailAt (by kernel_rfl)) hInv (by decide) rfl (by kernel_rfl) (by kernel_rfl) (by kernel_rfl) (fun _ _ _ h => h) (by rfl) (by assumption) ?_ (fun hInv2 => ?_)
  rotate_left
  · (intro w hSw; (try dsimp only at hSw); (try go_split_ands); go_simp <;> with_reducible rfl)
  clear hInv
  have hInv := hInv2
  clear hInv2
  try simp only [Act.put, List.setIfInBounds_toArray, List.set_cons_zero, List.set_cons_succ] at hInv ⊢
  refine takeS 5 (v := ?_) (tailAt (by kernel_rfl)) hInv (by decide) rfl (by kernel_rfl) (by kernel_rfl) (by kernel_rfl) (fun _ _ _ h => h) (by rfl) (by assumption) ?_ (fun hInv2 => ?_)
  rotate_left
  · (intro w hSw; (try dsimp only at hSw); (try go_split_ands); go_simp <;> with_reducible rfl)
  clear hInv
  have hInv := hInv2
  clear hInv2
  try simp only [Act.put, List.setIfInBounds_toArray, List.set_cons_zero, List.set_cons_succ] at hInv ⊢
  refine takeS 6 (v := ?_) (tailAt (by kernel_rfl)) hInv (by decide) rfl (by kernel_rfl) (by kernel_rfl) (by kernel_rfl) (fun _ _ _ h => h) (by rfl) (by assumption) ?_ (fun hInv2 => ?_)
  rotate_left
  · (intro w hSw; (try dsimp only at hSw); (try go_split_ands); go_simp <;> with_reducible rfl)
  clear hInv
  have hInv := hInv2
  clear hInv2
  try simp only [Act.put, List.setIfInBounds_toArray, List.set_cons_zero, List.set_cons_succ] at hInv ⊢
  refine takeS 7 (v := ?_) (tailAt (by kernel_rfl)) hInv (by decide) rfl (by kernel_rfl) (by kernel_rfl) (by kernel_rfl) (fun _ _ _ h => h) (by rfl) (by assumption) ?_ (fun hInv2 => ?_)
  rotate_left
  · (intro w hSw; (try dsimp only at hSw); (try go_split_ands); go_simp <;> with_reducible rfl)
  clear hInv
  have hInv := hInv2
  clear hInv2
  try simp only [Act.put, List.setIfInBounds_toArray, List.set_cons_zero, List.set_cons_succ] at hInv ⊢
  refine takeS 8 (v := ?_) (tailAt (by kernel_rfl)) hInv (by decide) rfl (by kernel_rfl) (by kernel_rfl) (by kernel_rfl) (fun _ _ _ h => h) (by rfl) (by assumption) ?_ (fun hInv2 => ?_)
  rotate_left
  · (intro w hSw; (try dsimp only at hSw); (try go_split_ands); go_simp <;> with_reducible rfl)
  clear hInv
  have hInv := hInv2
  clear hInv2
  try simp only [Act.put, List.setIfInBounds_toArray, List.set_cons_zero, List.set_cons_succ] at hInv ⊢
  refine takeS 9 (v := ?_) (tailAt (by kernel_rfl)) hInv (by decide) rfl (by kernel_rfl) (by kernel_rfl) (by kernel_rfl) (fun _ _ _ h => h) (by rfl) (by assumption) ?_ (fun hInv2 => ?_)
  rotate_left
  · (intro w hSw; (try dsimp only at hSw); (try go_split_ands); go_simp <;> with_reducible rfl)
  clear hInv
  have hInv := hInv2
  clear hInv2
  try simp only [Act.put, List.setIfInBounds_toArray, List.set_cons_zero, List.set_cons_succ] at hInv ⊢
  refine takeS 10 (v := ?_) (tailAt (by kernel_rfl)) hInv (by decide) rfl (by kernel_rfl) (by kernel_rfl) (by kernel_rfl) (fun _ _ _ h => h) (by rfl) (by assumption) ?_ (fun hInv2 => ?_)
  rotate_left
  · (intro w hSw; (try dsimp only at hSw); (try go_split_ands); go_simp <;> with_reducible rfl)
  clear hInv
  have hInv := hInv2
  clear hInv2
  try simp only [Act.put, List.setIfInBounds_toArray, List.set_cons_zero, List.set_cons_succ] at hInv ⊢
  refine takeS 11 (v := ?_) (tailAt (by kernel_rfl)) hInv (by decide) rfl (by kernel_rfl) (by kernel_rfl) (by kernel_rfl) (fun _ _ _ h => h) (by rfl) (by assumption) ?_ (fun hInv2 => ?_)
  rotate_left
  · (intro w hSw; (try dsimp only at hSw); (try go_split_ands); go_simp <;> with_reducible rfl)
  clear hInv
  have hInv := hInv2
  clear hInv2
  try simp only [Act.put, List.setIfInBounds_toArray, List.set_cons_zero, List.set_cons_succ] at hInv ⊢
  refine takeS 12 (v := ?_) (tailAt (by kernel_rfl)) hInv (by decide) rfl (by kernel_rfl) (by kernel_rfl) (by kernel_rfl) (fun _ _ _ h => h) (by rfl) (by assumption) ?_ (fun hInv2 => ?_)
  rotate_left
  · (intro w hSw; (try dsimp only at hSw); (try go_split_ands); go_simp <;> with_reducible rfl)
  clear hInv
  have hInv := hInv2
  clear hInv2
  try simp only [Act.put, List.setIfInBounds_toArray, List.set_cons_zero, List.set_cons_succ] at hInv ⊢
  refine takeS 13 (v := ?_) (tailAt (by kernel_rfl)) hInv (by decide) rfl (by kernel_rfl) (by kernel_rfl) (by kernel_rfl) (fun _ _ _ h => h) (by rfl) (by assumption) ?_ (fun hInv2 => ?_)
  rotate_left
  · (intro w hSw; (try dsimp only at hSw); (try go_split_ands); go_simp <;> with_reducible rfl)
  clear hInv
  have hInv := hInv2
  clear hInv2
  try simp only [Act.put, List.setIfInBounds_toArray, List.set_cons_zero, List.set_cons_succ] at hInv ⊢
  refine takeS 14 (v := ?_) (tailAt (by kernel_rfl)) hInv (by decide) rfl (by kernel_rfl) (by kernel_rfl) (by kernel_rfl) (fun _ _ _ h => h) (by rfl) (by assumption) ?_ (fun hInv2 => ?_)
  rotate_left
  · (intro w hSw; (try dsimp only at hSw); (try go_split_ands); go_simp <;> with_reducible rfl)
  clear hInv
  have hInv := hInv2
  clear hInv2
  try simp only [Act.put, List.setIfInBounds_toArray, List.set_cons_zero, List.set_cons_succ] at hInv ⊢
  refine oneS 15 hInv (by decide) rfl (by kernel_rfl) (fun K hK => ?_)
  go_simp
  skip
  refine hK.out _ _ ?_ (fun hHeld2 hInv2 => ?_)
  · (try dsimp only)
    (first | exact hS0 | exact hHeld | (obtain ⟨q0, q1, qR, qF, qB, qS⟩ := hHeld; have hb := (Below.refl W.drew.heap.size W.drew).alloc (Nat.le_refl _) (.cells #[.int .i64 0, .int .i64 0, .int .u64 0] 24); exact ⟨cellK q0 hb, cellK q1 hb, qR.keep hb, qF.keep qS hb, qB.trans (hb.mono (by omega)), Nat.lt_of_lt_of_le qS hb.size⟩))
  clear hK K hHeld hInv
  have hHeld := hHeld2
  have hInv := hInv2
  clear hHeld2 hInv2
  try simp only [Act.put, List.setIfInBounds_toArray, List.set_cons_zero, List.set_cons_succ] at hInv ⊢
  refine lastS 16 rfl (by decide) (by kernel_rfl) (fun K hK => ?_)
  go_simp
  refine hK.out _ _ ?_
  clear hK K
  try simp only [Act.put, List.setIfInBounds_toArray, List.set_cons_zero, List.set_cons_succ]
  refine wpAnyS_done (by kernel_rfl) ?_ _
  obtain ⟨V, hV⟩ : ∃ V : World, V = (W.alloc (.cells #[.int .i64 (t : Nat), .int .i64 (s : Nat), .int .u64 (y : Nat)] (24 : Nat))).drew := ⟨_, rfl⟩
  have hbV : Below W.heap.size W V := by rw [hV]; exact ((Below.refl W.heap.size W).alloc (Nat.le_refl _) _).drew
  have hkV : C3 V W.heap.size (.int .i64 (t : Nat)) (.int .i64 (s : Nat)) (.int .u64 (y : Nat)) := by rw [hV]; exact C3.new _ _ _ _ _
  rw [← hV]
  have v0 := cellK c0 hbV
  have hRV := hR.keep hbV
  have hFV := hF.keep hlw hbV
  have hBV : Below w.heap.size w V := hB0.trans (hbV.mono (by omega))
  have hlV : w.heap.size < V.heap.size := Nat.lt_of_lt_of_le hlw hbV.size
  clear hV hHeld hInv hbV hS0 c0 c1 hR hF hb1 hB0 hW e1 e2 f1 f2 f3
  obtain ⟨B9, hB9⟩ : ∃ B9, W.heap.size = B9 := ⟨_, rfl⟩
  rw [hB9] at hkV hg hlw ⊢
  clear hB9
  obtain ⟨k0, k1, k2⟩ := id hkV
  (try simp only [Exit.inBlock, Exit.then])
  go_wp2_with fail
  refine (hRt.out _).mono ?_
  rintro e w5 ⟨rfl, hb⟩
  clear k0 k1 k2
  have z0 := cellK v0 hb
  obtain ⟨d0, d1, d2⟩ := hRV.keep hb
  obtain ⟨f0, f1, f2⟩ := hFV.keep hlV hb
  obtain ⟨k0, k1, k2⟩ := hkV.keep hb
  have qB : Below w.heap.size w w5 := hBV.trans (hb.mono (by omega))
  clear hb v0 hRV hFV hkV hBV hRt
  (try simp only [Exit.inBlock, Exit.then])
  go_wp2_with fail
  (try simp only [Exit.inBlock, Exit.then])
  obtain ⟨w6, h6, ⟨t0, t1, t2⟩, hb5⟩ := st3_ex qB (Nat.le_refl _) d0 d1 d2 (t : Nat) (s : Nat) (y : Nat)
  rw [← h6]
  refine bodyPost_ret (v := .tuple #[nV (t : Nat) (s : Nat) (y : Nat), .bool true]) (by simp [nV, results, Tryd.results12, go_sem, t0, t1, t2]) rfl ⟨rfl, hb5⟩
set_option maxHeartbeats 2000000 in
theorem refDecode_sign (v : Value) (l : List Nat) (x y : Nat) (w : World) (hv : KL .u64 w v l) (h2 : ¬ l.length < 2) (hx : l.getD 0 0 = x) (hy : l.getD 1 0 = y) (hx64 : x < 18446744073709551616) (t s : Nat) (ht : x % 65536 = t) (hs : x / 65536 % 65536 = s) (hr : hdB t s y = true) (hsg : ¬ x / 4294967296 = 4200005632) :
    Calls Tryd.prog 12 #[v] w fun e w' => e = .returned (.tuple #[nV 0 0 0, .bool false]) ∧ Below w.heap.size w w' := by
  obtain ⟨n, hn⟩ : ∃ n, l.length = n := ⟨_, rfl⟩
  obtain ⟨A, cap, rfl, hC⟩ := hv.form hn
  rw [hn] at h2
  have h2' : ¬ (n : Int) < 2 := by omega
  have hB0 : Below w.heap.size w (w.alloc (.cells #[.int .i64 0, .int .i64 0, .int .u64 0] 24)) := (Below.refl _ _).alloc (Nat.le_refl _) _
  obtain ⟨g, off, rfl, hcap, hg, c0⟩ := hC (w.alloc (.cells #[.int .i64 0, .int .i64 0, .int .u64 0] 24)) 0 hB0 (by omega)
  obtain ⟨g', off', he, _, _, c1⟩ := hC (w.alloc (.cells #[.int .i64 0, .int .i64 0, .int .u64 0] 24)) 1 hB0 (by omega)
  cases he
  rw [hx, Nat.add_zero] at c0
  rw [hy] at c1
  have hRt := Lib.hid (fun w => refRight_any t s y w (by omega))
  have e1 : IntKind.i64.wrap (t : Int) = (t : Int) := by rw [IntKind.wrap_i64]; omega
  have e2 : IntKind.i64.wrap (s : Int) = (s : Int) := by rw [IntKind.wrap_i64]; omega
  obtain ⟨z, hz⟩ : ∃ z : Nat, x / 65536 = z := ⟨_, rfl⟩
  have f1 : (x : Int).tmod 65536 = (t : Int) := by rw [Int.tmod_eq_emod_of_nonneg (by omega)]; omega
  have f2 : IntKind.u64.wrap ((x : Int) / 65536) = (z : Int) := by rw [IntKind.wrap_u64]; omega
  have f3 : (z : Int).tmod 65536 = (s : Int) := by rw [Int.tmod_eq_emod_of_nonneg (by omega)]; omega
  rw [hr] at hRt
  obtain ⟨q, hq⟩ : ∃ q : Nat, (x : Int) / 4294967296 = (q : Int) := ⟨x / 4294967296, by omega⟩
  have u1 : ((q : Int) == 4200005632) = false := by rw [beq_eq_false_iff_ne]; omega
  have u2 : ((q : Int) != 4200005632) = true := by rw [bne_iff_ne]; omega
  have u3 : ¬ (q : Int) = 4200005632 := by omega
  clear hsg
  have u4 : (x : Int) < 18446744073709551616 := by omega
  (try unfold nV at hRt)
  have hR := C3.new w (.int .i64 0) (.int .i64 0) (.int .u64 0) 24
  have hF := F3.new w (.int .i64 0) (.int .i64 0) (.int .u64 0) 24
  have i0 : (0 : Int) < (n : Int) := by omega
  have i1 : (1 : Int) < (n : Int) := by omega
  have j0 : 0 < n := by omega
  have j1 : 1 < n := by omega
  clear hC hv hn hx hy ht hs hcap hz hx64
  go_enter Tryd.func12, Tryd.ntmps12
  generalize hW : w.alloc (.cells #[.int .i64 0, .int .i64 0, .int .u64 0] 24) = W at *
  have hlw := hR.lt
  have hb1 : Below w.heap.size w W.drew := ⟨hB0.os, hB0.tape, hB0.output, hB0.size, hB0.block⟩
  have hS0 : W.drew.cell? ⟨g, off, none⟩ = some (.int .u64 (x : Nat)) ∧ W.drew.cell? ⟨g, off + 1, none⟩ = some (.int .u64 (y : Nat)) ∧ C3 W.drew w.heap.size (.int .i64 0) (.int .i64 0) (.int .u64 0) ∧ F3 W.drew w.heap.size ∧ Below w.heap.size w W.drew ∧ w.heap.size < W.drew.heap.size := ⟨c0, c1, hR, hF, hb1, hlw⟩
  go_wp2_with fail
  try rw [hW]
  refine wp_region_tail (S := (fun w' => w'.cell? ⟨g, off, none⟩ = some (.int .u64 (x : Nat)) ∧ w'.cell? ⟨g, off + 1, none⟩ = some (.int .u64 (y : Nat)) ∧ C3 w' w.heap.size (.int .i64 0) (.int .i64 0) (.int .u64 0) ∧ F3 w' w.heap.size ∧ Below w.heap.size w w' ∧ w.heap.size < w'.heap.size)) (n := 16) (by kernel_rfl) ?_ (fun hHeld hInv => ?_) (by decide)
  · (try dsimp only)
    (first | exact hS0 | exact hHeld | (obtain ⟨q0, q1, qR, qF, qB, qS⟩ := hHeld; have hb := (Below.refl W.drew.heap.size W.drew).alloc (Nat.le_refl _) (.cells #[.int .i64 0, .int .i64 0, .int .u64 0] 24); exact ⟨cellK q0 hb, cellK q1 hb, qR.keep hb, qF.keep qS hb, qB.trans (hb.mono (by omega)), Nat.lt_of_lt_of_le qS hb.size⟩))
  refine takeS 0 (v := ?_) (tailAt (by kernel_rfl)) hInv (by decide) rfl (by kernel_rfl) (by kernel_rfl) (by kernel_rfl) (fun _ _ _ h => h) (by rfl) (by assumption) ?_ (fun hInv2 => ?_)
  rotate_left
  · (intro w hSw; (try dsimp only at hSw); (try go_split_ands); go_simp <;> with_reducible rfl)
  clear hInv
  have hInv := hInv2
  clear hInv2
  try simp only [Act.put, List.setIfInBounds_toArray, List.set_cons_zero, List.set_cons_succ] at hInv ⊢
  refine takeS 1 (v := ?_) (tailAt (by kernel_rfl)) hInv (by decide) rfl (by kernel_rfl) (by kernel_rfl) (by kernel_rfl) (fun _ _ _ h => h) (by rfl) (by assumption) ?_ (fun hInv2 => ?_)
  rotate_left
  · (intro w hSw; (try dsimp only at hSw); (try go_split_ands); go_simp <;> with_reducible rfl)
  clear hInv
  have hInv := hInv2
  clear hInv2
  try simp only [Act.put, List.setIfInBounds_toArray, List.set_cons_zero, List.set_cons_succ] at hInv ⊢
  refine takeS 2 (v := ?_) (tailAt (by kernel_rfl)) hInv (by decide) rfl (by kernel_rfl) (by kernel_rfl) (by kernel_rfl) (fun _ _ _ h => h) (by rfl) (by assumption) ?_ (fun hInv2 => ?_)
  rotate_left
  · (intro w hSw; (try dsimp only at hSw); (try go_split_ands); go_simp <;> with_reducible rfl)
  clear hInv
  have hInv := hInv2
  clear hInv2
  try simp only [Act.put, List.setIfInBounds_toArray, List.set_cons_zero, List.set_cons_succ] at hInv ⊢
  refine takeS 3 (v := ?_) (tailAt (by kernel_rfl)) hInv (by decide) rfl (by kernel_rfl) (by kernel_rfl) (by kernel_rfl) (fun _ _ _ h => h) (by rfl) (by assumption) ?_ (fun hInv2 => ?_)
  rotate_left
  · (intro w hSw; (try dsimp only at hSw); (try go_split_ands); go_simp <;> with_reducible rfl)
  clear hInv
  have hInv := hInv2
  clear hInv2
  try simp only [Act.put, List.setIfInBounds_toArray, List.set_cons_zero, List.set_cons_succ] at hInv ⊢
  refine takeS 4 (v := ?_) (tailAt (by kernel_rfl)) hInv (by decide) rfl (by kernel_rfl) (by kernel_rfl) (by kernel_rfl) (fun _ _ _ h => h) (by rfl) (by assumption) ?_ (fun hInv2 => ?_)
  rotate_left
  · (intro w hSw; (try dsimp only at hSw); (try go_split_ands); go_simp <;> with_reducible rfl)
  clear hInv
  have hInv := hInv2
  clear hInv2
  try simp only [Act.put, List.setIfInBounds_toArray, List.set_cons_zero, List.set_cons_succ] at hInv ⊢
  refine takeS 5 (v := ?_) (tailAt (by kernel_rfl)) hInv (by decide) rfl (by kernel_rfl) (by kernel_rfl) (by kernel_rfl) (fun _ _ _ h => h) (by rfl) (by assumption) ?_ (fun hInv2 => ?_)
  rotate_left
  · (intro w hSw; (try dsimp only at hSw); (try go_split_ands); go_simp <;> with_reducible rfl)
  clear hInv
  have hInv := hInv2
  clear hInv2
  try simp only [Act.put, List.setIfInBounds_toArray, List.set_cons_zero, List.set_cons_succ] at hInv ⊢
  refine takeS 6 (v := ?_) (tailAt (by kernel_rfl)) hInv (by decide) rfl (by kernel_rfl) (by kernel_rfl) (by kernel_rfl) (fun _ _ _ h => h) (by rfl) (by assumption) ?_ (fun hInv2 => ?_)
  rotate_left
  · (intro w hSw; (try dsimp only at hSw); (try go_split_ands); go_simp <;> with_reducible rfl)
  clear hInv
  have hInv := hInv2
  clear hInv2
  try simp only [Act.put, List.setIfInBounds_toArray, List.set_cons_zero, List.set_cons_succ] at hInv ⊢
  refine takeS 7 (v := ?_) (tailAt (by kernel_rfl)) hInv (by decide) rfl (by kernel_rfl) (by kernel_rfl) (by kernel_rfl) (fun _ _ _ h => h) (by rfl) (by assumption) ?_ (fun hInv2 => ?_)
  rotate_left
  · (intro w hSw; (try dsimp only at hSw); (try go_split_ands); go_simp <;> with_reducible rfl)
  clear hInv
  have hInv := hInv2
  clear hInv2
  try simp only [Act.put, List.setIfInBounds_toArray, List.set_cons_zero, List.set_cons_succ] at hInv ⊢
  refine takeS 8 (v := ?_) (tailAt (by kernel_rfl)) hInv (by decide) rfl (by kernel_rfl) (by kernel_rfl) (by kernel_rfl) (fun _ _ _ h => h) (by rfl) (by assumption) ?_ (fun hInv2 => ?_)
  rotate_left
  · (intro w hSw; (try dsimp only at hSw); (try go_split_ands); go_simp <;> with_reducible rfl)
  clear hInv
  have hInv := hInv2
  clear hInv2
  try simp only [Act.put, List.setIfInBounds_toArray, List.set_cons_zero, List.set_cons_succ] at hInv ⊢
  refine takeS 9 (v := ?_) (tailAt (by kernel_rfl)) hInv (by decide) rfl (by kernel_rfl) (by kernel_rfl) (by kernel_rfl) (fun _ _ _ h => h) (by rfl) (by assumption) ?_ (fun hInv2 => ?_)
  rotate_left
  · (intro w hSw; (try dsimp only at hSw); (try go_split_ands); go_simp <;> with_reducible rfl)
  clear hInv
  have hInv := hInv2
  clear hInv2
  try simp only [Act.put, List.setIfInBounds_toArray, List.set_cons_zero, List.set_cons_succ] at hInv ⊢
  refine takeS 10 (v := ?_) (tailAt (by kernel_rfl)) hInv (by decide) rfl (by kernel_rfl) (by kernel_rfl) (by kernel_rfl) (fun _ _ _ h => h) (by rfl) (by assumption) ?_ (fun hInv2 => ?_)
  rotate_left
  · (intro w hSw; (try dsimp only at hSw); (try go_split_ands); go_simp <;> with_reducible rfl)
  clear hInv
  have hInv := hInv2
  clear hInv2
  try simp only [Act.put, List.setIfInBounds_toArray, List.set_cons_zero, List.set_cons_succ] at hInv ⊢
  refine takeS 11 (v := ?_) (tailAt (by kernel_rfl)) hInv (by decide) rfl (by kernel_rfl) (by kernel_rfl) (by kernel_rfl) (fun _ _ _ h => h) (by rfl) (by assumption) ?_ (fun hInv2 => ?_)
  rotate_left
  · (intro w hSw; (try dsimp only at hSw); (try go_split_ands); go_simp <;> with_reducible rfl)
  clear hInv
  have hInv := hInv2
  clear hInv2
  try simp only [Act.put, List.setIfInBounds_toArray, List.set_cons_zero, List.set_cons_succ] at hInv ⊢
  refine takeS 12 (v := ?_) (tailAt (by kernel_rfl)) hInv (by decide) rfl (by kernel_rfl) (by kernel_rfl) (by kernel_rfl) (fun _ _ _ h => h) (by rfl) (by assumption) ?_ (fun hInv2 => ?_)
  rotate_left
  · (intro w hSw; (try dsimp only at hSw); (try go_split_ands); go_simp <;> with_reducible rfl)
  clear hInv
  have hInv := hInv2
  clear hInv2
  try simp only [Act.put, List.setIfInBounds_toArray, List.set_cons_zero, List.set_cons_succ] at hInv ⊢
  refine takeS 13 (v := ?_) (tailAt (by kernel_rfl)) hInv (by decide) rfl (by kernel_rfl) (by kernel_rfl) (by kernel_rfl) (fun _ _ _ h => h) (by rfl) (by assumption) ?_ (fun hInv2 => ?_)
  rotate_left
  · (intro w hSw; (try dsimp only at hSw); (try go_split_ands); go_simp <;> with_reducible rfl)
  clear hInv
  have hInv := hInv2
  clear hInv2
  try simp only [Act.put, List.setIfInBounds_toArray, List.set_cons_zero, List.set_cons_succ] at hInv ⊢
  refine takeS 14 (v := ?_) (tailAt (by kernel_rfl)) hInv (by decide) rfl (by kernel_rfl) (by kernel_rfl) (by kernel_rfl) (fun _ _ _ h => h) (by rfl) (by assumption) ?_ (fun hInv2 => ?_)
  rotate_left
  · (intro w hSw; (try dsimp only at hSw); (try go_split_ands); go_simp <;> with_reducible rfl)
  clear hInv
  have hInv := hInv2
  clear hInv2
  try simp only [Act.put, List.setIfInBounds_toArray, List.set_cons_zero, List.set_cons_succ] at hInv ⊢
  refine oneS 15 hInv (by decide) rfl (by kernel_rfl) (fun K hK => ?_)
  go_simp
  skip
  refine hK.out _ _ ?_ (fun hHeld2 hInv2 => ?_)
  · (try dsimp only)
    (first | exact hS0 | exact hHeld | (obtain ⟨q0, q1, qR, qF, qB, qS⟩ := hHeld; have hb := (Below.refl W.drew.heap.size W.drew).alloc (Nat.le_refl _) (.cells #[.int .i64 0, .int .i64 0, .int .u64 0] 24); exact ⟨cellK q0 hb, cellK q1 hb, qR.keep hb, qF.keep qS hb, qB.trans (hb.mono (by omega)), Nat.lt_of_lt_of_le qS hb.size⟩))
  clear hK K hHeld hInv
  have hHeld := hHeld2
  have hInv := hInv2
  clear hHeld2 hInv2
  try simp only [Act.put, List.setIfInBounds_toArray, List.set_cons_zero, List.set_cons_succ] at hInv ⊢
  refine lastS 16 rfl (by decide) (by kernel_rfl) (fun K hK => ?_)
  go_simp
  refine hK.out _ _ ?_
  clear hK K
  try simp only [Act.put, List.setIfInBounds_toArray, List.set_cons_zero, List.set_cons_succ]
  refine wpAnyS_done (by kernel_rfl) ?_ _
  obtain ⟨V, hV⟩ : ∃ V : World, V = (W.alloc (.cells #[.int .i64 (t : Nat), .int .i64 (s : Nat), .int .u64 (y : Nat)] (24 : Nat))).drew := ⟨_, rfl⟩
  have hbV : Below W.heap.size W V := by rw [hV]; exact ((Below.refl W.heap.size W).alloc (Nat.le_refl _) _).drew
  have hkV : C3 V W.heap.size (.int .i64 (t : Nat)) (.int .i64 (s : Nat)) (.int .u64 (y : Nat)) := by rw [hV]; exact C3.new _ _ _ _ _
  rw [← hV]
  have v0 := cellK c0 hbV
  have hRV := hR.keep hbV
  have hFV := hF.keep hlw hbV
  have hBV : Below w.heap.size w V := hB0.trans (hbV.mono (by omega))
  have hlV : w.heap.size < V.heap.size := Nat.lt_of_lt_of_le hlw hbV.size
  clear hV hHeld hInv hbV hS0 c0 c1 hR hF hb1 hB0 hW e1 e2 f1 f2 f3
  obtain ⟨B9, hB9⟩ : ∃ B9, W.heap.size = B9 := ⟨_, rfl⟩
  rw [hB9] at hkV hg hlw ⊢
  clear hB9
  obtain ⟨k0, k1, k2⟩ := id hkV
  (try simp only [Exit.inBlock, Exit.then])
  go_wp2_with fail
  refine (hRt.out _).mono ?_
  rintro e w5 ⟨rfl, hb⟩
  clear k0 k1 k2
  have z0 := cellK v0 hb
  obtain ⟨d0, d1, d2⟩ := hRV.keep hb
  obtain ⟨f0, f1, f2⟩ := hFV.keep hlV hb
  obtain ⟨k0, k1, k2⟩ := hkV.keep hb
  have qB : Below w.heap.size w w5 := hBV.trans (hb.mono (by omega))
  clear hb v0 hRV hFV hkV hBV hRt
  (try simp only [Exit.inBlock, Exit.then])
  go_wp2_with fail
  (try simp only [Exit.inBlock, Exit.then])
  obtain ⟨w6, h6, ⟨t0, t1, t2⟩, hb5⟩ := st3_ex qB (Nat.le_refl _) d0 d1 d2 0 0 0
  rw [← h6]
  refine bodyPost_ret (v := .tuple #[nV 0 0 0, .bool false]) (by simp [nV, results, Tryd.results12, go_sem, t0, t1, t2]) rfl ⟨rfl, hb5⟩
set_option maxHeartbeats 2000000 in
theorem refDecode_no (v : Value) (l : List Nat) (x y : Nat) (w : World) (hv : KL .u64 w v l) (h2 : ¬ l.length < 2) (hx : l.getD 0 0 = x) (hy : l.getD 1 0 = y) (hx64 : x < 18446744073709551616) (t s : Nat) (ht : x % 65536 = t) (hs : x / 65536 % 65536 = s) (hr : hdB t s y = false) :
    Calls Tryd.prog 12 #[v] w fun e w' => e = .returned (.tuple #[nV 0 0 0, .bool false]) ∧ Below w.heap.size w w' := by
  obtain ⟨n, hn⟩ : ∃ n, l.length = n := ⟨_, rfl⟩
  obtain ⟨A, cap, rfl, hC⟩ := hv.form hn
  rw [hn] at h2
  have h2' : ¬ (n : Int) < 2 := by omega
  have hB0 : Below w.heap.size w (w.alloc (.cells #[.int .i64 0, .int .i64 0, .int .u64 0] 24)) := (Below.refl _ _).alloc (Nat.le_refl _) _
  obtain ⟨g, off, rfl, hcap, hg, c0⟩ := hC (w.alloc (.cells #[.int .i64 0, .int .i64 0, .int .u64 0] 24)) 0 hB0 (by omega)
  obtain ⟨g', off', he, _, _, c1⟩ := hC (w.alloc (.cells #[.int .i64 0, .int .i64 0, .int .u64 0] 24)) 1 hB0 (by omega)
  cases he
  rw [hx, Nat.add_zero] at c0
  rw [hy] at c1
  have hRt := Lib.hid (fun w => refRight_any t s y w (by omega))
  have e1 : IntKind.i64.wrap (t : Int) = (t : Int) := by rw [IntKind.wrap_i64]; omega
  have e2 : IntKind.i64.wrap (s : Int) = (s : Int) := by rw [IntKind.wrap_i64]; omega
  obtain ⟨z, hz⟩ : ∃ z : Nat, x / 65536 = z := ⟨_, rfl⟩
  have f1 : (x : Int).tmod 65536 = (t : Int) := by rw [Int.tmod_eq_emod_of_nonneg (by omega)]; omega
  have f2 : IntKind.u64.wrap ((x : Int) / 65536) = (z : Int) := by rw [IntKind.wrap_u64]; omega
  have f3 : (z : Int).tmod 65536 = (s : Int) := by rw [Int.tmod_eq_emod_of_nonneg (by omega)]; omega
  rw [hr] at hRt
  (try unfold nV at hRt)
  have hR := C3.new w (.int .i64 0) (.int .i64 0) (.int .u64 0) 24
  have hF := F3.new w (.int .i64 0) (.int .i64 0) (.int .u64 0) 24
  have i0 : (0 : Int) < (n : Int) := by omega
  have i1 : (1 : Int) < (n : Int) := by omega
  have j0 : 0 < n := by omega
  have j1 : 1 < n := by omega
  clear hC hv hn hx hy ht hs hcap hz hx64
  go_enter Tryd.func12, Tryd.ntmps12
  generalize hW : w.alloc (.cells #[.int .i64 0, .int .i64 0, .int .u64 0] 24) = W at *
  have hlw := hR.lt
  have hb1 : Below w.heap.size w W.drew := ⟨hB0.os, hB0.tape, hB0.output, hB0.size, hB0.block⟩
  have hS0 : W.drew.cell? ⟨g, off, none⟩ = some (.int .u64 (x : Nat)) ∧ W.drew.cell? ⟨g, off + 1, none⟩ = some (.int .u64 (y : Nat)) ∧ C3 W.drew w.heap.size (.int .i64 0) (.int .i64 0) (.int .u64 0) ∧ F3 W.drew w.heap.size ∧ Below w.heap.size w W.drew ∧ w.heap.size < W.drew.heap.size := ⟨c0, c1, hR, hF, hb1, hlw⟩
  go_wp2_with fail
  try rw [hW]
  refine wp_region_tail (S := (fun w' => w'.cell? ⟨g, off, none⟩ = some (.int .u64 (x : Nat)) ∧ w'.cell? ⟨g, off + 1, none⟩ = some (.int .u64 (y : Nat)) ∧ C3 w' w.heap.size (.int .i64 0) (.int .i64 0) (.int .u64 0) ∧ F3 w' w.heap.size ∧ Below w.heap.size w w' ∧ w.heap.size < w'.heap.size)) (n := 16) (by kernel_rfl) ?_ (fun hHeld hInv => ?_) (by decide)
  · (try dsimp only)
    (first | exact hS0 | exact hHeld | (obtain ⟨q0, q1, qR, qF, qB, qS⟩ := hHeld; have hb := (Below.refl W.drew.heap.size W.drew).alloc (Nat.le_refl _) (.cells #[.int .i64 0, .int .i64 0, .int .u64 0] 24); exact ⟨cellK q0 hb, cellK q1 hb, qR.keep hb, qF.keep qS hb, qB.trans (hb.mono (by omega)), Nat.lt_of_lt_of_le qS hb.size⟩))
  refine takeS 0 (v := ?_) (tailAt (by kernel_rfl)) hInv (by decide) rfl (by kernel_rfl) (by kernel_rfl) (by kernel_rfl) (fun _ _ _ h => h) (by rfl) (by assumption) ?_ (fun hInv2 => ?_)
  rotate_left
  · (intro w hSw; (try dsimp only at hSw); (try go_split_ands); go_simp <;> with_reducible rfl)
  clear hInv
  have hInv := hInv2
  clear hInv2
  try simp only [Act.put, List.setIfInBounds_toArray, List.set_cons_zero, List.set_cons_succ] at hInv ⊢
  refine takeS 1 (v := ?_) (tailAt (by kernel_rfl)) hInv (by decide) rfl (by kernel_rfl) (by kernel_rfl) (by kernel_rfl) (fun _ _ _ h => h) (by rfl) (by assumption) ?_ (fun hInv2 => ?_)
  rotate_left
  · (intro w hSw; (try dsimp only at hSw); (try go_split_ands); go_simp <;> with_reducible rfl)
  clear hInv
  have hInv := hInv2
  clear hInv2
  try simp only [Act.put, List.setIfInBounds_toArray, List.set_cons_zero, List.set_cons_succ] at hInv ⊢
  refine takeS 2 (v := ?_) (tailAt (by kernel_rfl)) hInv (by decide) rfl (by kernel_rfl) (by kernel_rfl) (by kernel_rfl) (fun _ _ _ h => h) (by rfl) (by assumption) ?_ (fun hInv2 => ?_)
  rotate_left
  · (intro w hSw; (try dsimp only at hSw); (try go_split_ands); go_simp <;> with_reducible rfl)
  clear hInv
  have hInv := hInv2
  clear hInv2
  try simp only [Act.put, List.setIfInBounds_toArray, List.set_cons_zero, List.set_cons_succ] at hInv ⊢
  refine takeS 3 (v := ?_) (tailAt (by kernel_rfl)) hInv (by decide) rfl (by kernel_rfl) (by kernel_rfl) (by kernel_rfl) (fun _ _ _ h => h) (by rfl) (by assumption) ?_ (fun hInv2 => ?_)
  rotate_left
  · (intro w hSw; (try dsimp only at hSw); (try go_split_ands); go_simp <;> with_reducible rfl)
  clear hInv
  have hInv := hInv2
  clear hInv2
  try simp only [Act.put, List.setIfInBounds_toArray, List.set_cons_zero, List.set_cons_succ] at hInv ⊢
  refine takeS 4 (v := ?_) (tailAt (by kernel_rfl)) hInv (by decide) rfl (by kernel_rfl) (by kernel_rfl) (by kernel_rfl) (fun _ _ _ h => h) (by rfl) (by assumption) ?_ (fun hInv2 => ?_)
  rotate_left
  · (intro w hSw; (try dsimp only at hSw); (try go_split_ands); go_simp <;> with_reducible rfl)
  clear hInv
  have hInv := hInv2
  clear hInv2
  try simp only [Act.put, List.setIfInBounds_toArray, List.set_cons_zero, List.set_cons_succ] at hInv ⊢
  refine takeS 5 (v := ?_) (tailAt (by kernel_rfl)) hInv (by decide) rfl (by kernel_rfl) (by kernel_rfl) (by kernel_rfl) (fun _ _ _ h => h) (by rfl) (by assumption) ?_ (fun hInv2 => ?_)
  rotate_left
  · (intro w hSw; (try dsimp only at hSw); (try go_split_ands); go_simp <;> with_reducible rfl)
  clear hInv
  have hInv := hInv2
  clear hInv2
  try simp only [Act.put, List.setIfInBounds_toArray, List.set_cons_zero, List.set_cons_succ] at hInv ⊢
  refine takeS 6 (v := ?_) (tailAt (by kernel_rfl)) hInv (by decide) rfl (by kernel_rfl) (by kernel_rfl) (by kernel_rfl) (fun _ _ _ h => h) (by rfl) (by assumption) ?_ (fun hInv2 => ?_)
  rotate_left
  · (intro w hSw; (try dsimp only at hSw); (try go_split_ands); go_simp <;> with_reducible rfl)
  clear hInv
  have hInv := hInv2
  clear hInv2
  try simp only [Act.put, List.setIfInBounds_toArray, List.set_cons_zero, List.set_cons_succ] at hInv ⊢
  refine takeS 7 (v := ?_) (tailAt (by kernel_rfl)) hInv (by decide) rfl (by kernel_rfl) (by kernel_rfl) (by kernel_rfl) (fun _ _ _ h => h) (by rfl) (by assumption) ?_ (fun hInv2 => ?_)
  rotate_left
  · (intro w hSw; (try dsimp only at hSw); (try go_split_ands); go_simp <;> with_reducible rfl)
  clear hInv
  have hInv := hInv2
  clear hInv2
  try simp only [Act.put, List.setIfInBounds_toArray, List.set_cons_zero, List.set_cons_succ] at hInv ⊢
  refine takeS 8 (v := ?_) (tailAt (by kernel_rfl)) hInv (by decide) rfl (by kernel_rfl) (by kernel_rfl) (by kernel_rfl) (fun _ _ _ h => h) (by rfl) (by assumption) ?_ (fun hInv2 => ?_)
  rotate_left
  · (intro w hSw; (try dsimp only at hSw); (try go_split_ands); go_simp <;> with_reducible rfl)
  clear hInv
  have hInv := hInv2
  clear hInv2
  try simp only [Act.put, List.setIfInBounds_toArray, List.set_cons_zero, List.set_cons_succ] at hInv ⊢
  refine takeS 9 (v := ?_) (tailAt (by kernel_rfl)) hInv (by decide) rfl (by kernel_rfl) (by kernel_rfl) (by kernel_rfl) (fun _ _ _ h => h) (by rfl) (by assumption) ?_ (fun hInv2 => ?_)
  rotate_left
  · (intro w hSw; (try dsimp only at hSw); (try go_split_ands); go_simp <;> with_reducible rfl)
  clear hInv
  have hInv := hInv2
  clear hInv2
  try simp only [Act.put, List.setIfInBounds_toArray, List.set_cons_zero, List.set_cons_succ] at hInv ⊢
  refine takeS 10 (v := ?_) (tailAt (by kernel_rfl)) hInv (by decide) rfl (by kernel_rfl) (by kernel_rfl) (by kernel_rfl) (fun _ _ _ h => h) (by rfl) (by assumption) ?_ (fun hInv2 => ?_)
  rotate_left
  · (intro w hSw; (try dsimp only at hSw); (try go_split_ands); go_simp <;> with_reducible rfl)
  clear hInv
  have hInv := hInv2
  clear hInv2
  try simp only [Act.put, List.setIfInBounds_toArray, List.set_cons_zero, List.set_cons_succ] at hInv ⊢
  refine takeS 11 (v := ?_) (tailAt (by kernel_rfl)) hInv (by decide) rfl (by kernel_rfl) (by kernel_rfl) (by kernel_rfl) (fun _ _ _ h => h) (by rfl) (by assumption) ?_ (fun hInv2 => ?_)
  rotate_left
  · (intro w hSw; (try dsimp only at hSw); (try go_split_ands); go_simp <;> with_reducible rfl)
  clear hInv
  have hInv := hInv2
  clear hInv2
  try simp only [Act.put, List.setIfInBounds_toArray, List.set_cons_zero, List.set_cons_succ] at hInv ⊢
  refine takeS 12 (v := ?_) (tailAt (by kernel_rfl)) hInv (by decide) rfl (by kernel_rfl) (by kernel_rfl) (by kernel_rfl) (fun _ _ _ h => h) (by rfl) (by assumption) ?_ (fun hInv2 => ?_)
  rotate_left
  · (intro w hSw; (try dsimp only at hSw); (try go_split_ands); go_simp <;> with_reducible rfl)
  clear hInv
  have hInv := hInv2
  clear hInv2
  try simp only [Act.put, List.setIfInBounds_toArray, List.set_cons_zero, List.set_cons_succ] at hInv ⊢
  refine takeS 13 (v := ?_) (tailAt (by kernel_rfl)) hInv (by decide) rfl (by kernel_rfl) (by kernel_rfl) (by kernel_rfl) (fun _ _ _ h => h) (by rfl) (by assumption) ?_ (fun hInv2 => ?_)
  rotate_left
  · (intro w hSw; (try dsimp only at hSw); (try go_split_ands); go_simp <;> with_reducible rfl)
  clear hInv
  have hInv := hInv2
  clear hInv2
  try simp only [Act.put, List.setIfInBounds_toArray, List.set_cons_zero, List.set_cons_succ] at hInv ⊢
  refine takeS 14 (v := ?_) (tailAt (by kernel_rfl)) hInv (by decide) rfl (by kernel_rfl) (by kernel_rfl) (by kernel_rfl) (fun _ _ _ h => h) (by rfl) (by assumption) ?_ (fun hInv2 => ?_)
  rotate_left
  · (intro w hSw; (try dsimp only at hSw); (try go_split_ands); go_simp <;> with_reducible rfl)
  clear hInv
  have hInv := hInv2
  clear hInv2
  try simp only [Act.put, List.setIfInBounds_toArray, List.set_cons_zero, List.set_cons_succ] at hInv ⊢
  refine oneS 15 hInv (by decide) rfl (by kernel_rfl) (fun K hK => ?_)
  go_simp
  skip
  refine hK.out _ _ ?_ (fun hHeld2 hInv2 => ?_)
  · (try dsimp only)
    (first | exact hS0 | exact hHeld | (obtain ⟨q0, q1, qR, qF, qB, qS⟩ := hHeld; have hb := (Below.refl W.drew.heap.size W.drew).alloc (Nat.le_refl _) (.cells #[.int .i64 0, .int .i64 0, .int .u64 0] 24); exact ⟨cellK q0 hb, cellK q1 hb, qR.keep hb, qF.keep qS hb, qB.trans (hb.mono (by omega)), Nat.lt_of_lt_of_le qS hb.size⟩))
  clear hK K hHeld hInv
  have hHeld := hHeld2
  have hInv := hInv2
  clear hHeld2 hInv2
  try simp only [Act.put, List.setIfInBounds_toArray, List.set_cons_zero, List.set_cons_succ] at hInv ⊢
  refine lastS 16 rfl (by decide) (by kernel_rfl) (fun K hK => ?_)
  go_simp
  refine hK.out _ _ ?_
  clear hK K
  try simp only [Act.put, List.setIfInBounds_toArray, List.set_cons_zero, List.set_cons_succ]
  refine wpAnyS_done (by kernel_rfl) ?_ _
  obtain ⟨V, hV⟩ : ∃ V : World, V = (W.alloc (.cells #[.int .i64 (t : Nat), .int .i64 (s : Nat), .int .u64 (y : Nat)] (24 : Nat))).drew := ⟨_, rfl⟩
  have hbV : Below W.heap.size W V := by rw [hV]; exact ((Below.refl W.heap.size W).alloc (Nat.le_refl _) _).drew
  have hkV : C3 V W.heap.size (.int .i64 (t : Nat)) (.int .i64 (s : Nat)) (.int .u64 (y : Nat)) := by rw [hV]; exact C3.new _ _ _ _ _
  rw [← hV]
  have v0 := cellK c0 hbV
  have hRV := hR.keep hbV
  have hFV := hF.keep hlw hbV
  have hBV : Below w.heap.size w V := hB0.trans (hbV.mono (by omega))
  have hlV : w.heap.size < V.heap.size := Nat.lt_of_lt_of_le hlw hbV.size
  clear hV hHeld hInv hbV hS0 c0 c1 hR hF hb1 hB0 hW e1 e2 f1 f2 f3
  obtain ⟨B9, hB9⟩ : ∃ B9, W.heap.size = B9 := ⟨_, rfl⟩
  rw [hB9] at hkV hg hlw ⊢
  clear hB9
  obtain ⟨k0, k1, k2⟩ := id hkV
  (try simp only [Exit.inBlock, Exit.then])
  go_wp2_with fail
  refine (hRt.out _).mono ?_
  rintro e w5 ⟨rfl, hb⟩
  clear k0 k1 k2
  have z0 := cellK v0 hb
  obtain ⟨d0, d1, d2⟩ := hRV.keep hb
  obtain ⟨f0, f1, f2⟩ := hFV.keep hlV hb
  obtain ⟨k0, k1, k2⟩ := hkV.keep hb
  have qB : Below w.heap.size w w5 := hBV.trans (hb.mono (by omega))
  clear hb v0 hRV hFV hkV hBV hRt
  (try simp only [Exit.inBlock, Exit.then])
  go_wp2_with fail
  (try simp only [Exit.inBlock, Exit.then])
  obtain ⟨w6, h6, ⟨t0, t1, t2⟩, hb5⟩ := st3_ex qB (Nat.le_refl _) d0 d1 d2 0 0 0
  rw [← h6]
  refine bodyPost_ret (v := .tuple #[nV 0 0 0, .bool false]) (by simp [nV, results, Tryd.results12, go_sem, t0, t1, t2]) rfl ⟨rfl, hb5⟩
theorem refDecode_any (v : Value) (l : List Nat) (w : World) (hv : KL .u64 w v l) (h64 : ∀ x ∈ l, x < 18446744073709551616) :
    Calls Tryd.prog 12 #[v] w fun e w' => e = .returned (.tuple #[pV (decH l), .bool (decH l).isSome]) ∧ Below w.heap.size w w' := by
  by_cases h2 : l.length < 2
  · have e : decH l = none := by unfold decH; rw [if_pos h2]
    rw [e]; exact refDecode_short v l w hv h2
  · have hx : l.getD 0 0 < 18446744073709551616 := by
      refine h64 _ ?_
      rw [List.getD_eq_getElem?_getD, List.getElem?_eq_getElem (by omega)]; exact List.getElem_mem _
    by_cases hr : hdB (l.getD 0 0 % 65536 : Nat) (l.getD 0 0 / 65536 % 65536 : Nat) (l.getD 1 0 : Nat) = true
    · by_cases hs : l.getD 0 0 / 4294967296 = 4200005632
      · have e : decH l = some (l.getD 0 0 % 65536, l.getD 0 0 / 65536 % 65536, l.getD 1 0) := by
          unfold decH; rw [if_neg h2, hr, decide_eq_true hs]; rfl
        rw [e]
        exact refDecode_yes v l _ _ w hv h2 rfl rfl hx _ _ rfl rfl hr hs
      · have e : decH l = none := by
          unfold decH; rw [if_neg h2, hr, decide_eq_false hs]; rfl
        rw [e]
        exact refDecode_sign v l _ _ w hv h2 rfl rfl hx _ _ rfl rfl hr hs
    · have e : decH l = none := by
        unfold decH; rw [if_neg h2, eq_false_of_ne_true hr]; rfl
      rw [e]
      exact refDecode_no v l _ _ w hv h2 rfl rfl hx _ _ rfl rfl (eq_false_of_ne_true hr)
set_option maxHeartbeats 2000000 in
theorem oidHeaders (h0 h1 h2 : Int) (v : Value) (l : List Nat) (w : World) (ht : Tb w) (u2 : 0 ≤ h2) (hv : KL .u64 w v l) (h64 : ∀ x ∈ l, x < 18446744073709551616) :
    Calls Tryd.prog 3 #[nV h0 h1 h2, v] w fun e w' => e = .returned (.bool true) ∧ Below w.heap.size w w' := by

  have hQ : Q1 w (w.alloc (.cells #[.int .i64 h0, .int .i64 h1, .int .u64 h2] 24)) h0 h1 h2 := ⟨C3.new _ _ _ _ _, ht.next (below1 _ _), below1 _ _, (below1 _ _).size⟩
  replace hv := hv.keep (below1 w (.cells #[.int .i64 h0, .int .i64 h1, .int .u64 h2] 24))
  have hE1 := Lib.hid (fun w => encode_any h0 h1 h2 w u2)
  have hE2 := Lib.hid (fun w => refEncode_any h0 h1 h2 w u2)
  have hR1 := Lib.hid (fun w => right_any h0 h1 h2 w u2)
  have hR2 := Lib.hid (fun w => refRight_any h0 h1 h2 w u2)
  have hlw : (encR h0 h1 h2).1.length ≤ 1000000 := by unfold encR; split <;> simp
  have hD1 := Lib.hid (fun w hv => decode_any v l w hv h64)
  have hD2 := Lib.hid (fun w hv => refDecode_any v l w hv h64)
  obtain ⟨p0, p1, p2, hp⟩ : ∃ p0 p1 p2 : Int, pV (decH l) = nV p0 p1 p2 := by
    cases decH l with
    | none => exact ⟨0, 0, 0, rfl⟩
    | some k => obtain ⟨a, b, c⟩ := k; exact ⟨a, b, c, rfl⟩
  obtain ⟨kd, hkd⟩ : ∃ b, (decH l).isSome = b := ⟨_, rfl⟩
  rw [hp, hkd] at hD1 hD2
  unfold EncP at hE1 hE2
  generalize encR h0 h1 h2 = ER at hE1 hE2 hlw
  obtain ⟨la, ee⟩ := ER
  simp only at hE1 hE2 hlw
  have hWd := Lib.hid (fun (w : World) (v v' : Value) (h1 : KL .u64 w v la) (h2 : KL .u64 w v' la) => show Calls Tryd.prog 13 #[v, v'] w (fun e w' => e = .returned (.bool true) ∧ Below w.heap.size w w') from by
    have c := words_any v v' la la w hlw h1 h2
    rw [decide_eq_true rfl] at c; exact c)
  generalize hdB h0 h1 h2 = kr at hR1 hR2
  unfold nV at *
  clear hp hkd hlw
  obtain ⟨nl, hnl⟩ : ∃ n, l.length = n := ⟨_, rfl⟩
  obtain ⟨A, cap, rfl, _⟩ := id (hv.form hnl)
  by_cases hlong : 10 < nl
  · have hl2 : (nl : Int) > 10 := by omega
    clear hnl hE1 hE2 hR1 hR2 hD1 hD2 hWd
    go_enter Tryd.func3, Tryd.ntmps3
    go_wp2_with fail
    refine (awake_any _ hQ.2.1).mono ?_
    rintro e w1 ⟨rfl, hb⟩
    replace hQ := hQ.keep hb
    clear hb
    go_wp2_with fail
    go_ret
    exact ⟨rfl, hQ.2.2.1⟩
  · have hl2 : ¬ (nl : Int) > 10 := by omega
    replace hnl := Lib.hid hnl
    go_enter Tryd.func3, Tryd.ntmps3
    go_wp2_with fail
    refine (awake_any _ hQ.2.1).mono ?_
    rintro e w1 ⟨rfl, hb⟩
    replace hQ := hQ.keep hb
    replace hv := hv.keep hb
    clear hb
    obtain ⟨c0, c1, c2⟩ := id hQ.1
    go_wp2_with fail
    refine (hE1.out _).mono ?_
    rintro e w2 ⟨va, rfl, hA, hb⟩
    replace hQ := hQ.keep hb
    replace hv := hv.keep hb
    clear hb c0 c1 c2
    obtain ⟨c0, c1, c2⟩ := id hQ.1
    go_wp2_with fail
    refine (hE2.out _).mono ?_
    rintro e w3 ⟨vb, rfl, hBl, hb⟩
    replace hQ := hQ.keep hb
    replace hv := hv.keep hb
    replace hA := hA.keep hb
    clear hb c0 c1 c2
    go_wp2_with fail
    refine (hD1.out _ hv).mono ?_
    rintro e w4 ⟨rfl, hb⟩
    have hb2 := hb.trans ((below1 w4 (.cells #[.int .i64 p0, .int .i64 p1, .int .u64 p2] 24)).mono hb.size)
    replace hQ := hQ.keep hb2
    replace hv := hv.keep hb2
    replace hA := hA.keep hb2
    replace hBl := hBl.keep hb2
    have hCc := C3.new w4 (.int .i64 p0) (.int .i64 p1) (.int .u64 p2) 24
    clear hb hb2
    obtain ⟨Bc, hBc⟩ : ∃ B, w4.heap.size = B := ⟨_, rfl⟩
    rw [hBc] at hCc
    go_wp2_with fail
    try rw [hBc]
    clear hBc
    refine (hD2.out _ hv).mono ?_
    rintro e w5 ⟨rfl, hb⟩
    have hb2 := hb.trans ((below1 w5 (.cells #[.int .i64 p0, .int .i64 p1, .int .u64 p2] 24)).mono hb.size)
    replace hQ := hQ.keep hb2
    replace hA := hA.keep hb2
    replace hBl := hBl.keep hb2
    replace hCc := hCc.keep hb2
    have hCd := C3.new w5 (.int .i64 p0) (.int .i64 p1) (.int .u64 p2) 24
    clear hb hb2 hv
    obtain ⟨Bd, hBd⟩ : ∃ B, w5.heap.size = B := ⟨_, rfl⟩
    rw [hBd] at hCd
    obtain ⟨W, hW⟩ : ∃ W, w5.alloc (.cells #[.int .i64 p0, .int .i64 p1, .int .u64 p2] 24) = W := ⟨_, rfl⟩
    rw [hW] at hQ hA hBl hCc hCd
    replace hW := Lib.hid hW
    replace hBd := Lib.hid hBd
    have hS0 : (Q1 w W.drew h0 h1 h2 ∧ KL .u64 W.drew va la ∧ KL .u64 W.drew vb la ∧ C3 W.drew Bc (.int .i64 p0) (.int .i64 p1) (.int .u64 p2) ∧ C3 W.drew Bd (.int .i64 p0) (.int .i64 p1) (.int .u64 p2)) := ⟨⟨hQ.1, hQ.2.1, hQ.2.2.1.drew, hQ.2.2.2⟩, hA, hBl, hCc, hCd⟩
    go_wp2_with fail
    try rw [hBd.out]
    try rw [hW.out]
    clear hBd hW
    refine wp_region_held_drew (S := (fun w' => Q1 w w' h0 h1 h2 ∧ KL .u64 w' va la ∧ KL .u64 w' vb la ∧ C3 w' Bc (.int .i64 p0) (.int .i64 p1) (.int .u64 p2) ∧ C3 w' Bd (.int .i64 p0) (.int .i64 p1) (.int .u64 p2))) (by kernel_rfl) ?_ (fun hHeld => ?_)
    · (try dsimp only)
      (first | exact hS0 | exact ⟨hHeld.1.keep hb, hHeld.2.1.keep hb, hHeld.2.2.1.keep hb, hHeld.2.2.2.1.keep hb, hHeld.2.2.2.2.keep hb⟩)
    refine takeL 0 (v := ?_) rfl (by kernel_rfl) (by kernel_rfl) (by kernel_rfl) (fun _ _ _ h => h) (by rfl) (by assumption) ?_ ?_
    rotate_left
    · (intro w hSw; (try dsimp only at hSw); (obtain ⟨⟨⟨q0, q1, q2⟩, _⟩, _, _, ⟨m0, m1, m2⟩, ⟨n0, n1, n2⟩⟩ := hSw); go_simp <;> with_reducible rfl)
    try simp only [Act.put, List.setIfInBounds_toArray, List.set_cons_zero, List.set_cons_succ]
    refine takeL 1 (v := ?_) rfl (by kernel_rfl) (by kernel_rfl) (by kernel_rfl) (fun _ _ _ h => h) (by rfl) (by assumption) ?_ ?_
    rotate_left
    · (intro w hSw; (try dsimp only at hSw); (obtain ⟨⟨⟨q0, q1, q2⟩, _⟩, _, _, ⟨m0, m1, m2⟩, ⟨n0, n1, n2⟩⟩ := hSw); go_simp <;> with_reducible rfl)
    try simp only [Act.put, List.setIfInBounds_toArray, List.set_cons_zero, List.set_cons_succ]
    refine takeL 2 (v := ?_) rfl (by kernel_rfl) (by kernel_rfl) (by kernel_rfl) (fun _ _ _ h => h) (by rfl) (by assumption) ?_ ?_
    rotate_left
    · (intro w hSw; (try dsimp only at hSw); (obtain ⟨⟨⟨q0, q1, q2⟩, _⟩, _, _, ⟨m0, m1, m2⟩, ⟨n0, n1, n2⟩⟩ := hSw); go_simp <;> with_reducible rfl)
    try simp only [Act.put, List.setIfInBounds_toArray, List.set_cons_zero, List.set_cons_succ]
    refine takeL 3 (v := ?_) rfl (by kernel_rfl) (by kernel_rfl) (by kernel_rfl) (fun _ _ _ h => h) (by rfl) (by assumption) ?_ ?_
    rotate_left
    · (intro w hSw; (try dsimp only at hSw); (obtain ⟨⟨⟨q0, q1, q2⟩, _⟩, _, _, ⟨m0, m1, m2⟩, ⟨n0, n1, n2⟩⟩ := hSw); go_simp <;> with_reducible rfl)
    try simp only [Act.put, List.setIfInBounds_toArray, List.set_cons_zero, List.set_cons_succ]
    refine takeL 4 (v := ?_) rfl (by kernel_rfl) (by kernel_rfl) (by kernel_rfl) (fun _ _ _ h => h) (by rfl) (by assumption) ?_ ?_
    rotate_left
    · (intro w hSw; (try dsimp only at hSw); (obtain ⟨⟨⟨q0, q1, q2⟩, _⟩, _, _, ⟨m0, m1, m2⟩, ⟨n0, n1, n2⟩⟩ := hSw); go_simp <;> with_reducible rfl)
    try simp only [Act.put, List.setIfInBounds_toArray, List.set_cons_zero, List.set_cons_succ]
    refine takeL 5 (v := ?_) rfl (by kernel_rfl) (by kernel_rfl) (by kernel_rfl) (fun _ _ _ h => h) (by rfl) (by assumption) ?_ ?_
    rotate_left
    · (intro w hSw; (try dsimp only at hSw); (obtain ⟨⟨⟨q0, q1, q2⟩, _⟩, _, _, ⟨m0, m1, m2⟩, ⟨n0, n1, n2⟩⟩ := hSw); go_simp <;> with_reducible rfl)
    try simp only [Act.put, List.setIfInBounds_toArray, List.set_cons_zero, List.set_cons_succ]
    refine takeL 6 (v := ?_) rfl (by kernel_rfl) (by kernel_rfl) (by kernel_rfl) (fun _ _ _ h => h) (by rfl) (by assumption) ?_ ?_
    rotate_left
    · (intro w hSw; (try dsimp only at hSw); (obtain ⟨⟨⟨q0, q1, q2⟩, _⟩, _, _, ⟨m0, m1, m2⟩, ⟨n0, n1, n2⟩⟩ := hSw); go_simp <;> with_reducible rfl)
    try simp only [Act.put, List.setIfInBounds_toArray, List.set_cons_zero, List.set_cons_succ]
    refine takeL 7 (v := ?_) rfl (by kernel_rfl) (by kernel_rfl) (by kernel_rfl) (fun _ _ _ h => h) (by rfl) (by assumption) ?_ ?_
    rotate_left
    · (intro w hSw; (try dsimp only at hSw); (obtain ⟨⟨⟨q0, q1, q2⟩, _⟩, _, _, ⟨m0, m1, m2⟩, ⟨n0, n1, n2⟩⟩ := hSw); go_simp <;> with_reducible rfl)
    try simp only [Act.put, List.setIfInBounds_toArray, List.set_cons_zero, List.set_cons_succ]
    refine takeL 8 (v := ?_) rfl (by kernel_rfl) (by kernel_rfl) (by kernel_rfl) (fun _ _ _ h => h) (by rfl) (by assumption) ?_ ?_
    rotate_left
    · (intro w hSw; (try dsimp only at hSw); (obtain ⟨⟨⟨q0, q1, q2⟩, _⟩, _, _, ⟨m0, m1, m2⟩, ⟨n0, n1, n2⟩⟩ := hSw); go_simp <;> with_reducible rfl)
    try simp only [Act.put, List.setIfInBounds_toArray, List.set_cons_zero, List.set_cons_succ]
    refine oneL 9 rfl (by kernel_rfl) (fun K hK => ?_)
    go_simp
    (have qW := hWd.out _ _ _ hHeld.2.1 hHeld.2.2.1; go_at_call 13; (with_reducible refine qW.mono ?_); rintro e w8 ⟨rfl, hb⟩)
    refine hK.out _ _ ?_ (fun hHeld2 => ?_)
    · (try dsimp only)
      (first | exact hS0 | exact ⟨hHeld.1.keep hb, hHeld.2.1.keep hb, hHeld.2.2.1.keep hb, hHeld.2.2.2.1.keep hb, hHeld.2.2.2.2.keep hb⟩)
    clear hK K hHeld
    have hHeld := hHeld2
    clear hHeld2
    try simp only [Act.put, List.setIfInBounds_toArray, List.set_cons_zero, List.set_cons_succ]
    refine takeL 10 (v := ?_) rfl (by kernel_rfl) (by kernel_rfl) (by kernel_rfl) (fun _ _ _ h => h) (by rfl) (by assumption) ?_ ?_
    rotate_left
    · (intro w hSw; (try dsimp only at hSw); (obtain ⟨⟨⟨q0, q1, q2⟩, _⟩, _, _, ⟨m0, m1, m2⟩, ⟨n0, n1, n2⟩⟩ := hSw); go_simp <;> with_reducible rfl)
    try simp only [Act.put, List.setIfInBounds_toArray, List.set_cons_zero, List.set_cons_succ]
    refine takeL 11 (v := ?_) rfl (by kernel_rfl) (by kernel_rfl) (by kernel_rfl) (fun _ _ _ h => h) (by rfl) (by assumption) ?_ ?_
    rotate_left
    · (intro w hSw; (try dsimp only at hSw); (obtain ⟨⟨⟨q0, q1, q2⟩, _⟩, _, _, ⟨m0, m1, m2⟩, ⟨n0, n1, n2⟩⟩ := hSw); go_simp <;> with_reducible rfl)
    try simp only [Act.put, List.setIfInBounds_toArray, List.set_cons_zero, List.set_cons_succ]
    refine takeL 12 (v := ?_) rfl (by kernel_rfl) (by kernel_rfl) (by kernel_rfl) (fun _ _ _ h => h) (by rfl) (by assumption) ?_ ?_
    rotate_left
    · (intro w hSw; (try dsimp only at hSw); (obtain ⟨⟨⟨q0, q1, q2⟩, _⟩, _, _, ⟨m0, m1, m2⟩, ⟨n0, n1, n2⟩⟩ := hSw); go_simp <;> with_reducible rfl)
    try simp only [Act.put, List.setIfInBounds_toArray, List.set_cons_zero, List.set_cons_succ]
    refine takeL 14 (v := ?_) rfl (by kernel_rfl) (by kernel_rfl) (by kernel_rfl) (fun _ _ _ h => h) (by rfl) (by assumption) ?_ ?_
    rotate_left
    · (intro w hSw; (try dsimp only at hSw); (obtain ⟨⟨⟨q0, q1, q2⟩, _⟩, _, _, ⟨m0, m1, m2⟩, ⟨n0, n1, n2⟩⟩ := hSw); go_simp <;> with_reducible rfl)
    try simp only [Act.put, List.setIfInBounds_toArray, List.set_cons_zero, List.set_cons_succ]
    refine oneL 13 rfl (by kernel_rfl) (fun K hK => ?_)
    go_simp
    (go_at_call 14; (with_reducible refine (hR1.out _).mono ?_); rintro e w8 ⟨rfl, hb⟩)
    refine hK.out _ _ ?_ (fun hHeld2 => ?_)
    · (try dsimp only)
      (first | exact hS0 | exact ⟨hHeld.1.keep hb, hHeld.2.1.keep hb, hHeld.2.2.1.keep hb, hHeld.2.2.2.1.keep hb, hHeld.2.2.2.2.keep hb⟩)
    clear hK K hHeld
    have hHeld := hHeld2
    clear hHeld2
    try simp only [Act.put, List.setIfInBounds_toArray, List.set_cons_zero, List.set_cons_succ]
    refine oneL 15 rfl (by kernel_rfl) (fun K hK => ?_)
    go_simp
    (go_at_call 15; (with_reducible refine (hR2.out _).mono ?_); rintro e w8 ⟨rfl, hb⟩)
    refine hK.out _ _ ?_ (fun hHeld2 => ?_)
    · (try dsimp only)
      (first | exact hS0 | exact ⟨hHeld.1.keep hb, hHeld.2.1.keep hb, hHeld.2.2.1.keep hb, hHeld.2.2.2.1.keep hb, hHeld.2.2.2.2.keep hb⟩)
    clear hK K hHeld
    have hHeld := hHeld2
    clear hHeld2
    try simp only [Act.put, List.setIfInBounds_toArray, List.set_cons_zero, List.set_cons_succ]
    refine takeL 16 (v := ?_) rfl (by kernel_rfl) (by kernel_rfl) (by kernel_rfl) (fun _ _ _ h => h) (by rfl) (by assumption) ?_ ?_
    rotate_left
    · (intro w hSw; (try dsimp only at hSw); (obtain ⟨⟨⟨q0, q1, q2⟩, _⟩, _, _, ⟨m0, m1, m2⟩, ⟨n0, n1, n2⟩⟩ := hSw); go_simp <;> with_reducible rfl)
    try simp only [Act.put, List.setIfInBounds_toArray, List.set_cons_zero, List.set_cons_succ]
    refine takeL 17 (v := ?_) rfl (by kernel_rfl) (by kernel_rfl) (by kernel_rfl) (fun _ _ _ h => h) (by rfl) (by assumption) ?_ ?_
    rotate_left
    · (intro w hSw; (try dsimp only at hSw); (obtain ⟨⟨⟨q0, q1, q2⟩, _⟩, _, _, ⟨m0, m1, m2⟩, ⟨n0, n1, n2⟩⟩ := hSw); go_simp <;> with_reducible rfl)
    try simp only [Act.put, List.setIfInBounds_toArray, List.set_cons_zero, List.set_cons_succ]
    refine takeL 18 (v := ?_) rfl (by kernel_rfl) (by kernel_rfl) (by kernel_rfl) (fun _ _ _ h => h) (by rfl) (by assumption) ?_ ?_
    rotate_left
    · (intro w hSw; (try dsimp only at hSw); (obtain ⟨⟨⟨q0, q1, q2⟩, _⟩, _, _, ⟨m0, m1, m2⟩, ⟨n0, n1, n2⟩⟩ := hSw); go_simp <;> with_reducible rfl)
    try simp only [Act.put, List.setIfInBounds_toArray, List.set_cons_zero, List.set_cons_succ]
    refine takeL 19 (v := ?_) rfl (by kernel_rfl) (by kernel_rfl) (by kernel_rfl) (fun _ _ _ h => h) (by rfl) (by assumption) ?_ ?_
    rotate_left
    · (intro w hSw; (try dsimp only at hSw); (obtain ⟨⟨⟨q0, q1, q2⟩, _⟩, _, _, ⟨m0, m1, m2⟩, ⟨n0, n1, n2⟩⟩ := hSw); go_simp <;> with_reducible rfl)
    try simp only [Act.put, List.setIfInBounds_toArray, List.set_cons_zero, List.set_cons_succ]
    refine takeL 20 (v := ?_) rfl (by kernel_rfl) (by kernel_rfl) (by kernel_rfl) (fun _ _ _ h => h) (by rfl) (by assumption) ?_ ?_
    rotate_left
    · (intro w hSw; (try dsimp only at hSw); (obtain ⟨⟨⟨q0, q1, q2⟩, _⟩, _, _, ⟨m0, m1, m2⟩, ⟨n0, n1, n2⟩⟩ := hSw); go_simp <;> with_reducible rfl)
    try simp only [Act.put, List.setIfInBounds_toArray, List.set_cons_zero, List.set_cons_succ]
    refine takeL 21 (v := ?_) rfl (by kernel_rfl) (by kernel_rfl) (by kernel_rfl) (fun _ _ _ h => h) (by rfl) (by assumption) ?_ ?_
    rotate_left
    · (intro w hSw; (try dsimp only at hSw); (obtain ⟨⟨⟨q0, q1, q2⟩, _⟩, _, _, ⟨m0, m1, m2⟩, ⟨n0, n1, n2⟩⟩ := hSw); go_simp <;> with_reducible rfl)
    try simp only [Act.put, List.setIfInBounds_toArray, List.set_cons_zero, List.set_cons_succ]
    refine takeL 22 (v := ?_) rfl (by kernel_rfl) (by kernel_rfl) (by kernel_rfl) (fun _ _ _ h => h) (by rfl) (by assumption) ?_ ?_
    rotate_left
    · (intro w hSw; (try dsimp only at hSw); (obtain ⟨⟨⟨q0, q1, q2⟩, _⟩, _, _, ⟨m0, m1, m2⟩, ⟨n0, n1, n2⟩⟩ := hSw); go_simp <;> with_reducible rfl)
    try simp only [Act.put, List.setIfInBounds_toArray, List.set_cons_zero, List.set_cons_succ]
    refine takeL 23 (v := ?_) rfl (by kernel_rfl) (by kernel_rfl) (by kernel_rfl) (fun _ _ _ h => h) (by rfl) (by assumption) ?_ ?_
    rotate_left
    · (intro w hSw; (try dsimp only at hSw); (obtain ⟨⟨⟨q0, q1, q2⟩, _⟩, _, _, ⟨m0, m1, m2⟩, ⟨n0, n1, n2⟩⟩ := hSw); go_simp <;> with_reducible rfl)
    try simp only [Act.put, List.setIfInBounds_toArray, List.set_cons_zero, List.set_cons_succ]
    refine takeL 24 (v := ?_) rfl (by kernel_rfl) (by kernel_rfl) (by kernel_rfl) (fun _ _ _ h => h) (by rfl) (by assumption) ?_ ?_
    rotate_left
    · (intro w hSw; (try dsimp only at hSw); (obtain ⟨⟨⟨q0, q1, q2⟩, _⟩, _, _, ⟨m0, m1, m2⟩, ⟨n0, n1, n2⟩⟩ := hSw); go_simp <;> with_reducible rfl)
    try simp only [Act.put, List.setIfInBounds_toArray, List.set_cons_zero, List.set_cons_succ]
    refine takeL 25 (v := ?_) rfl (by kernel_rfl) (by kernel_rfl) (by kernel_rfl) (fun _ _ _ h => h) (by rfl) (by assumption) ?_ ?_
    rotate_left
    · (intro w hSw; (try dsimp only at hSw); (obtain ⟨⟨⟨q0, q1, q2⟩, _⟩, _, _, ⟨m0, m1, m2⟩, ⟨n0, n1, n2⟩⟩ := hSw); go_simp <;> with_reducible rfl)
    try simp only [Act.put, List.setIfInBounds_toArray, List.set_cons_zero, List.set_cons_succ]
    refine takeL 26 (v := ?_) rfl (by kernel_rfl) (by kernel_rfl) (by kernel_rfl) (fun _ _ _ h => h) (by rfl) (by assumption) ?_ ?_
    rotate_left
    · (intro w hSw; (try dsimp only at hSw); (obtain ⟨⟨⟨q0, q1, q2⟩, _⟩, _, _, ⟨m0, m1, m2⟩, ⟨n0, n1, n2⟩⟩ := hSw); go_simp <;> with_reducible rfl)
    try simp only [Act.put, List.setIfInBounds_toArray, List.set_cons_zero, List.set_cons_succ]
    refine takeL 27 (v := ?_) rfl (by kernel_rfl) (by kernel_rfl) (by kernel_rfl) (fun _ _ _ h => h) (by rfl) (by assumption) ?_ ?_
    rotate_left
    · (intro w hSw; (try dsimp only at hSw); (obtain ⟨⟨⟨q0, q1, q2⟩, _⟩, _, _, ⟨m0, m1, m2⟩, ⟨n0, n1, n2⟩⟩ := hSw); go_simp <;> with_reducible rfl)
    try simp only [Act.put, List.setIfInBounds_toArray, List.set_cons_zero, List.set_cons_succ]
    refine takeL 28 (v := ?_) rfl (by kernel_rfl) (by kernel_rfl) (by kernel_rfl) (fun _ _ _ h => h) (by rfl) (by assumption) ?_ ?_
    rotate_left
    · (intro w hSw; (try dsimp only at hSw); (obtain ⟨⟨⟨q0, q1, q2⟩, _⟩, _, _, ⟨m0, m1, m2⟩, ⟨n0, n1, n2⟩⟩ := hSw); go_simp <;> with_reducible rfl)
    try simp only [Act.put, List.setIfInBounds_toArray, List.set_cons_zero, List.set_cons_succ]
    refine wpAnyH_done (by kernel_rfl) ?_ _
    obtain ⟨⟨_, _, qB, _⟩, _⟩ := hHeld
    (try simp only [Exit.inBlock, Exit.then])
    go_wp2_with fail
    (try simp only [Exit.inBlock, Exit.then])
    go_ret
    exact ⟨rfl, qB⟩
end Go.Proofs.YtdblioggncnapaaDoor
