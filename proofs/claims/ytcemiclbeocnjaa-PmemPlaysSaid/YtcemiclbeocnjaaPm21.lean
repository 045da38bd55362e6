/-
  Layer 3 (pmem): an operation, done with the code's device and with the document's.
-/
import Derived.Test.YtcemiclbeocnjaaPm20
set_option linter.unusedVariables false
set_option linter.unusedSimpArgs false
namespace Go.Proofs.Ytcemiclbeocnjaa
open Go.RowKit Go.ChangeShapes Go.WideShapes Go.Deep Go.Maps

def opD (s : Dv) (o : Qx) : Dv :=
  if o.1.1 = 0 then storeD s o.1.2.1 o.1.2.2.2.toNat else if o.1.1 = 1 then flushD s o.1.2.1 o.1.2.2.1 else if o.1.1 = 2 then fenceD s else if o.1.1 = 3 then evictD s o.1.2.1 else if o.1.1 = 4 then fuseD s o.1.2.2.1 else if o.1.1 = 5 then crashD s o.2.2 else s
def opR (s : Dv) (o : Qx) : Nat := if o.1.1 = 6 then loadD s o.1.2.1 else 0
theorem GoodK.op {s : Dv} {N k : Nat} (h : GoodK s N k) (hN : N ≤ 1000) {o : Qx} (hq : QFew o) : GoodK (opD s o) N (k + 1) := by
  have h0 : GoodK s N (k + 1) := ⟨h.len, h.cin, h.fin, by have := h.n; omega, h.st0, by have := h.st; omega, h.fu0, h.fu⟩
  unfold opD
  split
  · exact h.store _ _
  split
  · exact h.flush hN _ _
  split
  · exact h.fence
  split
  · exact h.evict _
  split
  · exact h.fuseTo _ hq.2.2.2.2
  split
  · exact h.crash _
  · exact h0
theorem chg_alloc {F : Nat → Prop} (w : World) (o : Obj) {w' : World} (h : Chg F (w.alloc o) w') : Chg F w w' := (Chg.of_below F ((Below.refl _ w).alloc (Nat.le_refl _) o)).trans h (fun j q => .inl q)
theorem RvAt.fuse {w : World} {B : Nat} {F : Nat → Prop} {s : Dv} (h : RvAt w B F s) (d : Int) : w.cell? ⟨B, 1, none⟩ = some (.int .i64 s.fuse) ∧ w.frozen? ⟨B, 1, none⟩ = false ∧ Hid (RvAt (w.setCell ⟨B, 1, none⟩ (.int .i64 d)) B F { s with fuse := d } ∧ Chg F w (w.setCell ⟨B, 1, none⟩ (.int .i64 d))) := by
  obtain ⟨v0, W, hM, hW⟩ := h
  have h2 := hM.put (o := 1) (u := .int .i64 d) (s' := { s with fuse := d }) rfl
  exact ⟨hM.cells.1.2.1, hM.cells.2 1, ⟨v0, W, ⟨h2.blk, h2.row, h2.fB, h2.f0, h2.lt⟩, hW.same rfl (fun j _ => ⟨rfl, rfl, rfl⟩)⟩, Chg.setCell w B 1 (.int .i64 d) hM.fB⟩

set_option maxRecDepth 10000 in
set_option maxHeartbeats 4000000 in
theorem doP_any (B : Nat) (F : Nat → Prop) (s : Dv) (o : Qx) (w : World) (h : DvAt w B F s) (hg : GoodD s) (hq : QFew o) (hk : 0 ≤ o.1.1 ∧ o.1.1 ≤ 255) (hv : U64 o.1.2.2.2) (hbl : BL o.2.2) (hK : ∀ w', Chg F w w' → KL .u8 w' o.2.1 o.2.2) :
    Calls Try.prog 15 #[.pointer (some ⟨B, 0, none⟩), qV o] w fun e w' => e = .returned (.int .u64 (opR s o : Nat)) ∧ DvAt w' B F (opD s o) ∧ Chg F w w' := by
  obtain ⟨⟨kd, at_, mn, v⟩, kv, kp⟩ := o
  obtain ⟨q0, q1, q2, q3, q4⟩ := hq
  simp only [] at q0 q1 q2 q3 q4 hk hv hbl hK
  obtain ⟨vn, rfl⟩ := Int.eq_ofNat_of_zero_le hv.1
  unfold opD opR
  simp only [qV, qE, Int.toNat_natCast]
  obtain ⟨Ak, ck, rfl, _⟩ := (hK w (Chg.refl _ _)).form rfl
  have hkl := Lib.hid (show kp.length ≤ 1000 from by omega)
  obtain ⟨m, hm⟩ : ∃ m, kp.length = m := ⟨_, rfl⟩
  rw [hm] at hK ⊢
  replace hm := Lib.hid hm
  replace hK := Lib.hid hK
  have hAw : ∀ ob : Obj, DvAt (w.alloc ob) B F s := fun ob => h.keep ((Below.refl _ _).alloc (Nat.le_refl _) ob)
  have hBl : B < w.heap.size := h.lt _ h.fB
  have hlen := Lib.hid hg.len
  have hkd : kd = 0 ∨ kd = 1 ∨ kd = 2 ∨ kd = 3 ∨ kd = 4 ∨ kd = 5 ∨ kd = 6 ∨ 7 ≤ kd := by omega
  have hO := Lib.hid h
  clear h hv hk
  rcases hkd with rfl | hkd
  · have hD := hAw (.cells #[.int .u8 0, .int .i64 at_, .int .i64 mn, .int .u64 (vn : Nat), .slice Ak m ck] (36 : Nat))
    clear hAw
    have hC := dStore B F s at_ vn _ hD hg
    clear hD
    go_enter Try.func15, Try.ntmps15
    go_wp2_with (go_at_call 48; refine hC.mono ?_; rintro e w1 ⟨rfl, h1, hc1⟩; clear hC)
    go_ret
    exact ⟨rfl, h1, chg_alloc _ _ hc1⟩
  rcases hkd with rfl | hkd
  · have hD := hAw (.cells #[.int .u8 1, .int .i64 at_, .int .i64 mn, .int .u64 (vn : Nat), .slice Ak m ck] (36 : Nat))
    clear hAw
    have hC := dFlush B F s at_ mn _ hD hg ⟨q1, q2⟩ ⟨q3, q4⟩
    clear hD
    go_enter Try.func15, Try.ntmps15
    go_wp2_with (go_at_call 49; refine hC.mono ?_; rintro e w1 ⟨rfl, h1, hc1⟩; clear hC)
    go_ret
    exact ⟨rfl, h1, chg_alloc _ _ hc1⟩
  rcases hkd with rfl | hkd
  · have hD := hAw (.cells #[.int .u8 2, .int .i64 at_, .int .i64 mn, .int .u64 (vn : Nat), .slice Ak m ck] (36 : Nat))
    clear hAw
    have hC := callsIn_wide.1 (fence_in 3 (by decide) B F s _ hD hg)
    clear hD
    go_enter Try.func15, Try.ntmps15
    go_wp2_with (go_at_call 50; refine hC.mono ?_; rintro e w1 ⟨rfl, h1, hc1⟩; clear hC)
    go_ret
    exact ⟨rfl, h1, chg_alloc _ _ hc1⟩
  rcases hkd with rfl | hkd
  · have hD := hAw (.cells #[.int .u8 3, .int .i64 at_, .int .i64 mn, .int .u64 (vn : Nat), .slice Ak m ck] (36 : Nat))
    clear hAw
    have hC := dEvict B F s at_ _ hD hg
    clear hD
    go_enter Try.func15, Try.ntmps15
    go_wp2_with (go_at_call 52; refine hC.mono ?_; rintro e w1 ⟨rfl, h1, hc1⟩; clear hC)
    go_ret
    exact ⟨rfl, h1, chg_alloc _ _ hc1⟩
  rcases hkd with rfl | hkd
  · have hD := hAw (.cells #[.int .u8 4, .int .i64 at_, .int .i64 mn, .int .u64 (vn : Nat), .slice Ak m ck] (36 : Nat))
    clear hAw
    have hC := dFuse B F s mn _ hD
    clear hD
    go_enter Try.func15, Try.ntmps15
    go_wp2_with (go_at_call 53; refine hC.mono ?_; rintro e w1 ⟨rfl, h1, hc1⟩; clear hC)
    go_ret
    exact ⟨rfl, h1, chg_alloc _ _ hc1⟩
  rcases hkd with rfl | hkd
  · have hD := hAw (.cells #[.int .u8 5, .int .i64 at_, .int .i64 mn, .int .u64 (vn : Nat), .slice Ak m ck] (36 : Nat))
    clear hAw
    have hC := dCrash B F s (.slice Ak m ck) kp _ hD hg hbl hkl.out (fun w' hc => hK.out w' (chg_alloc _ _ hc))
    clear hD
    go_enter Try.func15, Try.ntmps15
    go_wp2_with (go_at_call 51; refine hC.mono ?_; rintro e w1 ⟨rfl, h1, hc1⟩; clear hC)
    go_ret
    exact ⟨rfl, h1, chg_alloc _ _ hc1⟩
  rcases hkd with rfl | hkd
  · have hD := hAw (.cells #[.int .u8 6, .int .i64 at_, .int .i64 mn, .int .u64 (vn : Nat), .slice Ak m ck] (36 : Nat))
    clear hAw
    have hC := (dLoad B F s at_ _ hD hg)
    have h1 := Lib.hid hD
    clear hD
    go_enter Try.func15, Try.ntmps15
    go_wp2_with (go_at_call 22; refine hC.mono ?_; rintro e w1 ⟨rfl, rfl⟩; clear hC)
    go_ret
    exact ⟨rfl, h1.out, Chg.of_below F ((Below.refl _ _).alloc (Nat.le_refl _) _)⟩
  · have hD := hAw (.cells #[.int .u8 kd, .int .i64 at_, .int .i64 mn, .int .u64 (vn : Nat), .slice Ak m ck] (36 : Nat))
    have n0 : ¬ kd = 0 := by omega
    have n1 : ¬ kd = 1 := by omega
    have n2 : ¬ kd = 2 := by omega
    have n3 : ¬ kd = 3 := by omega
    have n4 : ¬ kd = 4 := by omega
    have n5 : ¬ kd = 5 := by omega
    have n6 : ¬ kd = 6 := by omega
    replace hD := Lib.hid hD
    clear hAw
    rw [if_neg n0, if_neg n1, if_neg n2, if_neg n3, if_neg n4, if_neg n5, if_neg n6]
    have b0 : (kd == 0) = false := by simpa using n0
    have b1 : (kd == 1) = false := by simpa using n1
    have b2 : (kd == 2) = false := by simpa using n2
    have b3 : (kd == 3) = false := by simpa using n3
    have b4 : (kd == 4) = false := by simpa using n4
    have b5 : (kd == 5) = false := by simpa using n5
    have b6 : (kd == 6) = false := by simpa using n6
    go_enter Try.func15, Try.ntmps15
    go_wp2_with fail
    go_ret
    exact ⟨rfl, hD.out, Chg.of_below F ((Below.refl _ _).alloc (Nat.le_refl _) _)⟩

set_option maxRecDepth 10000 in
set_option maxHeartbeats 4000000 in
theorem alsoP_any (B : Nat) (F : Nat → Prop) (s : Dv) (o : Qx) (w : World) (h : RvAt w B F s) (hg : GoodD s) (hq : QFew o) (hk : 0 ≤ o.1.1 ∧ o.1.1 ≤ 255) (hv : U64 o.1.2.2.2) (hbl : BL o.2.2) (hK : ∀ w', Chg F w w' → KL .u8 w' o.2.1 o.2.2) :
    Calls Try.prog 16 #[.pointer (some ⟨B, 0, none⟩), qV o] w fun e w' => e = .returned (.int .u64 (opR s o : Nat)) ∧ RvAt w' B F (opD s o) ∧ Chg F w w' := by
  obtain ⟨⟨kd, at_, mn, v⟩, kv, kp⟩ := o
  obtain ⟨q0, q1, q2, q3, q4⟩ := hq
  simp only [] at q0 q1 q2 q3 q4 hk hv hbl hK
  obtain ⟨vn, rfl⟩ := Int.eq_ofNat_of_zero_le hv.1
  unfold opD opR
  simp only [qV, qE, Int.toNat_natCast]
  obtain ⟨Ak, ck, rfl, _⟩ := (hK w (Chg.refl _ _)).form rfl
  have hkl := Lib.hid (show kp.length ≤ 1000 from by omega)
  obtain ⟨m, hm⟩ : ∃ m, kp.length = m := ⟨_, rfl⟩
  rw [hm] at hK ⊢
  replace hm := Lib.hid hm
  replace hK := Lib.hid hK
  have hAw : ∀ ob : Obj, RvAt (w.alloc ob) B F s := fun ob => h.keep ((Below.refl _ _).alloc (Nat.le_refl _) ob)
  have hBl : B < w.heap.size := h.lt _ h.fB
  have hlen := Lib.hid hg.len
  have hkd : kd = 0 ∨ kd = 1 ∨ kd = 2 ∨ kd = 3 ∨ kd = 4 ∨ kd = 5 ∨ kd = 6 ∨ 7 ≤ kd := by omega
  have hO := Lib.hid h
  clear h hv hk
  rcases hkd with rfl | hkd
  · have hD := hAw (.cells #[.int .u8 0, .int .i64 at_, .int .i64 mn, .int .u64 (vn : Nat), .slice Ak m ck] (36 : Nat))
    clear hAw
    have hC := rStore B F s at_ vn _ hD hg
    clear hD
    go_enter Try.func16, Try.ntmps16
    go_wp2_with (go_at_call 54; refine hC.mono ?_; rintro e w1 ⟨rfl, h1, hc1⟩; clear hC)
    go_ret
    exact ⟨rfl, h1, chg_alloc _ _ hc1⟩
  rcases hkd with rfl | hkd
  · have hD := hAw (.cells #[.int .u8 1, .int .i64 at_, .int .i64 mn, .int .u64 (vn : Nat), .slice Ak m ck] (36 : Nat))
    clear hAw
    have hC := rFlush B F s at_ mn _ hD hg ⟨q1, q2⟩ ⟨q3, q4⟩
    clear hD
    go_enter Try.func16, Try.ntmps16
    go_wp2_with (go_at_call 55; refine hC.mono ?_; rintro e w1 ⟨rfl, h1, hc1⟩; clear hC)
    go_ret
    exact ⟨rfl, h1, chg_alloc _ _ hc1⟩
  rcases hkd with rfl | hkd
  · have hD := hAw (.cells #[.int .u8 2, .int .i64 at_, .int .i64 mn, .int .u64 (vn : Nat), .slice Ak m ck] (36 : Nat))
    clear hAw
    have hC := rFence B F s _ hD hg
    clear hD
    go_enter Try.func16, Try.ntmps16
    go_wp2_with (go_at_call 56; refine hC.mono ?_; rintro e w1 ⟨rfl, h1, hc1⟩; clear hC)
    go_ret
    exact ⟨rfl, h1, chg_alloc _ _ hc1⟩
  rcases hkd with rfl | hkd
  · have hD := hAw (.cells #[.int .u8 3, .int .i64 at_, .int .i64 mn, .int .u64 (vn : Nat), .slice Ak m ck] (36 : Nat))
    clear hAw
    have hC := rEvict B F s at_ _ hD hg
    clear hD
    go_enter Try.func16, Try.ntmps16
    go_wp2_with (go_at_call 57; refine hC.mono ?_; rintro e w1 ⟨rfl, h1, hc1⟩; clear hC)
    go_ret
    exact ⟨rfl, h1, chg_alloc _ _ hc1⟩
  rcases hkd with rfl | hkd
  · have hD := hAw (.cells #[.int .u8 4, .int .i64 at_, .int .i64 mn, .int .u64 (vn : Nat), .slice Ak m ck] (36 : Nat))
    clear hAw
    obtain ⟨d, hd⟩ : ∃ d, max mn 0 = d := ⟨_, rfl⟩
    obtain ⟨c1, f1, hE⟩ := hD.fuse d
    have hm1 : (if mn < 0 then (0 : Int) else mn) = d := by rw [← hd]; split <;> omega
    have hm2 : (if (0 : Int) ≤ mn then mn else (0 : Int)) = d := by rw [← hd]; split <;> omega
    have hm3 : (if mn ≤ 0 then (0 : Int) else mn) = d := by rw [← hd]; split <;> omega
    have hm4 : (if (0 : Int) < mn then mn else (0 : Int)) = d := by rw [← hd]; split <;> omega
    have hm5 : max 0 mn = d := by rw [← hd]; omega
    have hfu := Lib.hid (show fuseD s mn = { s with fuse := d } from by unfold fuseD; rw [hd])
    clear hD hd
    go_enter Try.func16, Try.ntmps16
    go_wp2_with fail
    go_ret
    obtain ⟨_, _, hE2⟩ := hO.out.fuse d
    refine ⟨rfl, ?_, hE2.out.2.trans (Chg.of_below F ((Below.refl _ _).alloc (Nat.le_refl _) _)) (fun j q => .inl q)⟩
    (try simp only [show ¬ ((4 : Int) = 0) by decide, show ¬ ((4 : Int) = 1) by decide, show ¬ ((4 : Int) = 2) by decide, show ¬ ((4 : Int) = 3) by decide, if_false, if_true])
    rw [hfu.out]
    exact hE2.out.1.keep ((Below.refl _ _).alloc (Nat.le_refl _) _)
  rcases hkd with rfl | hkd
  · have hD := hAw (.cells #[.int .u8 5, .int .i64 at_, .int .i64 mn, .int .u64 (vn : Nat), .slice Ak m ck] (36 : Nat))
    clear hAw
    have hC := rCrash B F s (.slice Ak m ck) kp _ hD hg hbl hkl.out (fun w' hc => hK.out w' (chg_alloc _ _ hc))
    clear hD
    go_enter Try.func16, Try.ntmps16
    go_wp2_with (go_at_call 58; refine hC.mono ?_; rintro e w1 ⟨rfl, h1, hc1⟩; clear hC)
    go_ret
    exact ⟨rfl, h1, chg_alloc _ _ hc1⟩
  rcases hkd with rfl | hkd
  · have hD := hAw (.cells #[.int .u8 6, .int .i64 at_, .int .i64 mn, .int .u64 (vn : Nat), .slice Ak m ck] (36 : Nat))
    clear hAw
    have hC := (rLoad B F s at_ _ hD hg)
    have h1 := Lib.hid hD
    clear hD
    go_enter Try.func16, Try.ntmps16
    go_wp2_with (go_at_call 23; refine hC.mono ?_; rintro e w1 ⟨rfl, rfl⟩; clear hC)
    go_ret
    exact ⟨rfl, h1.out, Chg.of_below F ((Below.refl _ _).alloc (Nat.le_refl _) _)⟩
  · have hD := hAw (.cells #[.int .u8 kd, .int .i64 at_, .int .i64 mn, .int .u64 (vn : Nat), .slice Ak m ck] (36 : Nat))
    have n0 : ¬ kd = 0 := by omega
    have n1 : ¬ kd = 1 := by omega
    have n2 : ¬ kd = 2 := by omega
    have n3 : ¬ kd = 3 := by omega
    have n4 : ¬ kd = 4 := by omega
    have n5 : ¬ kd = 5 := by omega
    have n6 : ¬ kd = 6 := by omega
    replace hD := Lib.hid hD
    clear hAw
    rw [if_neg n0, if_neg n1, if_neg n2, if_neg n3, if_neg n4, if_neg n5, if_neg n6]
    have b0 : (kd == 0) = false := by simpa using n0
    have b1 : (kd == 1) = false := by simpa using n1
    have b2 : (kd == 2) = false := by simpa using n2
    have b3 : (kd == 3) = false := by simpa using n3
    have b4 : (kd == 4) = false := by simpa using n4
    have b5 : (kd == 5) = false := by simpa using n5
    have b6 : (kd == 6) = false := by simpa using n6
    go_enter Try.func16, Try.ntmps16
    go_wp2_with fail
    go_ret
    exact ⟨rfl, hD.out, Chg.of_below F ((Below.refl _ _).alloc (Nat.le_refl _) _)⟩
end Go.Proofs.Ytcemiclbeocnjaa
