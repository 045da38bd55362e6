/-
  Part of the proof of MendLanes.
-/
import Derived.Test.YtkdhdibjbabgfaaGreatDoorVl13
import Derived.Test.YtkdhdibjbabgfaaGreatDoorVl17
import Derived.Test.YtkdhdibjbabgfaaGreatDoorVl26
import Derived.Test.YtkdhdibjbabgfaaGreatDoorVl6
import Derived.Test.YtkdhdibjbabgfaaGreatDoorVl9
import Derived.Test.YtkdhdibjbabgfaaGreatDoorVl0
set_option maxRecDepth 10000
set_option maxHeartbeats 1000000
set_option linter.unusedVariables false
set_option linter.unusedSimpArgs false
section
namespace Go.Proofs.YtkdhdibjbabgfaaGreatDoor
open Go.RowKit
def smW (a b c : Int) : Int := 10 + 73 * (1 + a % 64) + 33 * (1 + b % 200) + c % 33
def smL (a : Int) : Int := 1 + a % 64
theorem small_any (a b c : Int) (w : World) (h1 : 0 ≤ a) (h2 : a ≤ 255) (h3 : 0 ≤ b) (h4 : b ≤ 255) (h5 : 0 ≤ c) (h6 : c ≤ 255) :
 Calls Tryz.prog 37 #[.int .u8 a, .int .u8 b, .int .u8 c] w fun e w' => e = .returned (.agg #[.int .i64 (smW a b c), .int .i64 (smL a)]) ∧ Below w.heap.size w w' := by
 go_enter Tryz.func37, Tryz.ntmps37
 go_wp2
 go_returns
 refine ⟨?_, by go_grown⟩
 unfold smW smL
 exact ret_g (by omega) (by omega)
end Go.Proofs.YtkdhdibjbabgfaaGreatDoor
end
section
namespace Go.Proofs.YtkdhdibjbabgfaaGreatDoor
open Go.RowKit
theorem SL.lit (w : World) (ws : List Nat) (t : TypeId) : SL (w.alloc (.cells (wv ws).toArray t)) (.slice (some ⟨w.heap.size, 0, none⟩) ws.length ws.length) ws := by
 refine .inr ⟨w.heap.size, 0, ws.length, rfl, by simp, Nat.le_refl _, fun i hi => ?_⟩
 have h : (w.alloc (.cells (wv ws).toArray t)).heap[w.heap.size]? = some (.cells (wv ws).toArray t (0, 0)) := heap_alloc_new w _
 rw [Nat.zero_add, (row_cell h i).1, List.getElem?_toArray, wv_at ws i hi]
def headL (W L G : Nat) : List Nat := [6076272092419149644, 1, W, L, G, 0, 0]
theorem head_WL {W L G : Nat} (h1 : W < 18446744073709551616) (h2 : L < 18446744073709551616) (h3 : G < 18446744073709551616) : WL (headL W L G) := fun x hx => by
 unfold headL at hx
 simp at hx
 omega
def gNat (W L : Nat) : Nat := (gN W L).toNat
theorem gNat_eq {W L : Nat} (h : gOk W L = true) : gN W L = (gNat W L : Int) := by
 have := gN_bd h
 unfold gNat
 omega
theorem senc_t (W L G : Nat) (w : World) (h : gOk W L = true) (hG : gN W L = (G : Int)) :
 Calls Tryz.prog 79 #[.agg #[.int .i64 W, .int .i64 L]] w fun e w' => ∃ g, e = .returned (.tuple #[.slice (some ⟨g, 0, none⟩) 8 8, .int .i64 0]) ∧ w.heap.size ≤ g ∧ Rw w' g (headL W L G ++ [moreN 0 (headL W L G)]) ∧ Below w.heap.size w w' := by
 obtain ⟨h1, h2, h3, h4⟩ := gOk_t h
 obtain ⟨n1, n2, n3, n4⟩ := gN_bd h
 rw [hG] at n1 n2 n3 n4
 have hR := lh (fun w => right_t W L w h)
 have hCh := lh (fun w => show Calls Tryz.prog 109 #[.agg #[.int .i64 W, .int .i64 L]] w fun e w' => e = .returned (.int .i64 G) ∧ Below w.heap.size w w' from by
  have := chunks_t W L w h
  rwa [hG] at this)
 have hWL : WL (headL W L G) := head_WL (by omega) (by omega) (by omega)
 replace hG := lh hG
 replace h := lh h
 have f1 : IntKind.u64.wrap (W : Int) = (W : Int) := by rw [IntKind.wrap_u64]; omega
 have f2 : IntKind.u64.wrap (L : Int) = (L : Int) := by rw [IntKind.wrap_u64]; omega
 have f3 : IntKind.u64.wrap (G : Int) = (G : Int) := by rw [IntKind.wrap_u64]; omega
 have hC0 := C2.new w (.int .i64 W) (.int .i64 L) 33
 go_enter Tryz.func79, Tryz.ntmps79
 go_wp2_with fail
 refine (hR.out _).mono ?_
 rintro e w1 ⟨rfl, hb1⟩
 have hB1 : Below w.heap.size w w1 := (bZ _ _).trans (hb1.mono (by simp))
 have hd1 := hB1.drew
 obtain ⟨k0, k1⟩ := hC0.keep hb1
 clear hC0 hb1
 go_wp2_with fail
 refine wp_region_held_drew (S := (fun w' => w'.cell? ⟨w.heap.size, 0, none⟩ = some (.int .i64 W) ∧ w'.cell? ⟨w.heap.size, 1, none⟩ = some (.int .i64 L) ∧ Below w.heap.size w w')) (by kernel_rfl) ?_ (fun hHeld => ?_)
 ·(try dsimp only)
  first | exact ⟨k0, k1, hd1⟩ | exact ⟨cellK hHeld.1 hb, cellK hHeld.2.1 hb, hHeld.2.2.trans (hb.mono hHeld.2.2.size)⟩ | exact ⟨cellK hHeld.1 hb9, cellK hHeld.2.1 hb9, hHeld.2.2.trans (hb9.mono hHeld.2.2.size)⟩ | exact ⟨cellK hHeld.1 hb10, cellK hHeld.2.1 hb10, hHeld.2.2.trans (hb10.mono hHeld.2.2.size)⟩
 refine takeQ 0 ?_
 refine takeQ 1 ?_
 refine takeQ 2 ?_
 refine takeQ 3 ?_
 refine takeQ 4 ?_
 refine takeQ 5 ?_
 refine takeQ 6 ?_
 refine oneL 7 rfl (by kernel_rfl) (fun K hK => ?_)
 go_simp
 (go_at_call 109; (with_reducible refine (hCh.out _).mono ?_); rintro e w8 ⟨rfl, hb⟩)
 refine hK.out _ _ ?_ (fun hHeld2 => ?_)
 ·(try dsimp only)
  first | exact ⟨k0, k1, hd1⟩ | exact ⟨cellK hHeld.1 hb, cellK hHeld.2.1 hb, hHeld.2.2.trans (hb.mono hHeld.2.2.size)⟩ | exact ⟨cellK hHeld.1 hb9, cellK hHeld.2.1 hb9, hHeld.2.2.trans (hb9.mono hHeld.2.2.size)⟩ | exact ⟨cellK hHeld.1 hb10, cellK hHeld.2.1 hb10, hHeld.2.2.trans (hb10.mono hHeld.2.2.size)⟩
 clear hK K hHeld
 have hHeld := hHeld2
 clear hHeld2
 try simp only [Act.put,sA,sB,sC]
 refine takeQ 8 ?_
 refine oneL 9 rfl (by kernel_rfl) (fun K hK => ?_)
 go_simp
 (have hS7 : SL (w8.alloc (.cells #[.int .u64 6076272092419149644, .int .u64 1, .int .u64 W, .int .u64 L, .int .u64 G, .int .u64 0, .int .u64 0] 25)) (.slice (some ⟨w8.heap.size, 0, none⟩) 7 7) (headL W L G) := SL.lit w8 (headL W L G) _; have hs8 : w.heap.size ≤ w8.heap.size := hHeld.2.2.size; have hb9 := bZ w8 (.cells #[.int .u64 6076272092419149644, .int .u64 1, .int .u64 W, .int .u64 L, .int .u64 G, .int .u64 0, .int .u64 0] 25))
 refine hK.out _ _ ?_ (fun hHeld2 => ?_)
 ·(try dsimp only)
  first | exact ⟨k0, k1, hd1⟩ | exact ⟨cellK hHeld.1 hb, cellK hHeld.2.1 hb, hHeld.2.2.trans (hb.mono hHeld.2.2.size)⟩ | exact ⟨cellK hHeld.1 hb9, cellK hHeld.2.1 hb9, hHeld.2.2.trans (hb9.mono hHeld.2.2.size)⟩ | exact ⟨cellK hHeld.1 hb10, cellK hHeld.2.1 hb10, hHeld.2.2.trans (hb10.mono hHeld.2.2.size)⟩
 clear hK K hHeld
 have hHeld := hHeld2
 clear hHeld2
 try simp only [Act.put,sA,sB,sC]
 refine oneL 10 rfl (by kernel_rfl) (fun K hK => ?_)
 go_simp
 (go_at_call 108; refine (seal_own _ (headL W L G) _ hWL (by simp [headL]) hS7).mono ?_; rintro e w10 ⟨rfl, hS10, hb10⟩)
 refine hK.out _ _ ?_ (fun hHeld2 => ?_)
 ·(try dsimp only)
  first | exact ⟨k0, k1, hd1⟩ | exact ⟨cellK hHeld.1 hb, cellK hHeld.2.1 hb, hHeld.2.2.trans (hb.mono hHeld.2.2.size)⟩ | exact ⟨cellK hHeld.1 hb9, cellK hHeld.2.1 hb9, hHeld.2.2.trans (hb9.mono hHeld.2.2.size)⟩ | exact ⟨cellK hHeld.1 hb10, cellK hHeld.2.1 hb10, hHeld.2.2.trans (hb10.mono hHeld.2.2.size)⟩
 clear hK K hHeld
 have hHeld := hHeld2
 clear hHeld2
 try simp only [Act.put,sA,sB,sC]
 refine takeQ 11 ?_
 refine takeQ 12 ?_
 refine wpAnyH_done (by kernel_rfl) ?_ _
 go_wp2_with fail
 go_ret2
 exact ⟨w8.heap.size + 1, rfl, Nat.le_succ_of_le hs8, by simpa using hS10, hHeld.2.2⟩
theorem senc_f (W L : Int) (w : World) (h : gOk W L = false) :
 Calls Tryz.prog 79 #[.agg #[.int .i64 W, .int .i64 L]] w fun e w' => e = .returned (.tuple #[.slice none 0 0, .int .i64 1]) ∧ Below w.heap.size w w' := by
 have hR := lh (fun w => right_f W L w h)
 replace h := lh h
 go_enter Tryz.func79, Tryz.ntmps79
 go_wp2_with fail
 refine (hR.out _).mono ?_
 rintro e w1 ⟨rfl, hb1⟩
 have hB1 : Below w.heap.size w w1 := (bZ _ _).trans (hb1.mono (by simp))
 go_wp2_with fail
 go_ret2
 exact ⟨rfl, hB1⟩
end Go.Proofs.YtkdhdibjbabgfaaGreatDoor
end
section
namespace Go.Proofs.YtkdhdibjbabgfaaGreatDoor
open Go.RowKit Go.ChangeShapes Go.WideShapes Go.Deep
theorem EN.form {w : World} {v : Value} {l : List Pe} {n : Nat} (h : EN w v l) (hn : l.length = n) : ∃ A cap, v = .slice A n cap ∧
 ∀ w1 i, Below w.heap.size w w1 → i < n → ∃ g off A2 c2, A = some ⟨g, off, none⟩ ∧ n ≤ cap ∧ g < w1.heap.size ∧ w1.cell? ⟨g, off + i * 2, none⟩ = some (.int .i64 (l.getD i default).1) ∧ w1.cell? ⟨g, off + i * 2 + 1, none⟩ = some (.slice A2 (l.getD i default).2.length c2) ∧ KL .u64 w1 (.slice A2 (l.getD i default).2.length c2) (l.getD i default).2 := by
 obtain ⟨xs, hE, hK, rfl⟩ := h
 rw [List.length_map] at hn
 obtain ⟨A, cap, hv, hC⟩ := EL.form hE hn
 refine ⟨A, cap, hv, fun w1 i hb hi => ?_⟩
 obtain ⟨g, off, hA, hc, _, hg, hcl⟩ := hC w1 i hb hi
 have hm : xs.getD i default ∈ xs := by rw [List.getD_eq_getElem?_getD, List.getElem?_eq_getElem (by omega)]; exact List.getElem_mem _
 have e : (xs.map px).getD i default = px (xs.getD i default) := by
  rw [List.getD_eq_getElem?_getD, List.getD_eq_getElem?_getD, List.getElem?_map, List.getElem?_eq_getElem (by omega)]
  rfl
 have hk := hK _ hm
 rw [e]
 have c0 := hcl 0 (by decide)
 have c1 := hcl 1 (by decide)
 generalize xs.getD i default = x at *
 obtain ⟨xa, xv, xl⟩ := x
 obtain ⟨A2, c2, hv2, _⟩ := id hk
 simp only [] at hv2
 subst hv2
 exact ⟨g, off, A2, c2, hA, hc, hg, c0, c1, hk.keep hb⟩
def inP (x : Pe) (n : Int) : Prop := 0 ≤ x.1 ∧ x.1 + (x.2.length : Int) ≤ n
instance (x : Pe) (n : Int) : Decidable (inP x n) := by unfold inP; infer_instance
end Go.Proofs.YtkdhdibjbabgfaaGreatDoor
end
section
namespace Go.Proofs.YtkdhdibjbabgfaaGreatDoor
open Go.RowKit Go.ChangeShapes Go.WideShapes Go.Deep
theorem refRight_any (a : Int) (A : Option Addr) (m cap : Nat) (w : World) : Calls Tryz.prog 60 #[.agg #[.int .i64 a, .slice A m cap]] w fun e w' => e = .returned (.bool (canB a m)) ∧ Below w.heap.size w w' := by
 unfold canB
 have hb0 : Below w.heap.size w (w.alloc (.cells #[.int .i64 a, .slice A m cap] (64 : Nat))) := bZ _ _
 by_cases k1 : 0 ≤ a
 ·by_cases k2 : a < 65536
  ·replace k2 : a ≤ 65535 := by omega
   by_cases k3 : 0 < m
   ·have k3' : (0 : Int) < (m : Int) := by omega
    by_cases k4 : m ≤ 4096
    ·have k4' : (m : Int) ≤ 4096 := by omega
     rw [decide_eq_true k1, decide_eq_true (show a < 65536 by omega), decide_eq_true (show (1 : Int) ≤ m by omega), decide_eq_true (show (m : Int) ≤ 4096 by omega)]
     go_enter Tryz.func60, Tryz.ntmps60
     go_wp2_with fail
     go_ret
     exact ⟨ret_b (by simp; try omega), hb0⟩
    ·have k4' : (4096 : Int) < (m : Int) := by omega
     rw [decide_eq_true k1, decide_eq_true (show a < 65536 by omega), decide_eq_true (show (1 : Int) ≤ m by omega), decide_eq_false (show ¬ (m : Int) ≤ 4096 by omega)]
     go_enter Tryz.func60, Tryz.ntmps60
     go_wp2_with fail
     go_ret
     exact ⟨ret_b (by simp; try omega), hb0⟩
   ·obtain rfl : m = 0 := by omega
    rw [decide_eq_true k1, decide_eq_true (show a < 65536 by omega), decide_eq_false (show ¬ (1 : Int) ≤ ((0 : Nat) : Int) by omega)]
    go_enter Tryz.func60, Tryz.ntmps60
    go_wp2_with fail
    go_ret
    exact ⟨ret_b (by simp; try omega), hb0⟩
  ·replace k2 : 65535 < a := by omega
   rw [decide_eq_true k1, decide_eq_false (show ¬ a < 65536 by omega)]
   go_enter Tryz.func60, Tryz.ntmps60
   go_wp2_with fail
   go_ret
   exact ⟨ret_b (by simp; try omega), hb0⟩
 ·rw [decide_eq_false k1]
  replace k1 : a < 0 := by omega
  go_enter Tryz.func60, Tryz.ntmps60
  go_wp2_with fail
  go_ret
  exact ⟨ret_b (by simp; try omega), hb0⟩
theorem refEncode_no (gn : Int) (a : Int) (A : Option Addr) (m cap : Nat) (w : World) (hr : canB a m = false) :
 Calls Tryz.prog 30 #[.int .u64 gn, .agg #[.int .i64 a, .slice A m cap]] w fun e w' => e = .returned (.tuple #[.slice none 0 0, .int .i64 1]) ∧ Below w.heap.size w w' := by
 have hb0 : Below w.heap.size w (w.alloc (.cells #[.int .i64 a, .slice A m cap] (64 : Nat))) := bZ _ _
 have hC := lh (fun w => refRight_any a A m cap w)
 rw [hr] at hC
 clear hr
 go_enter Tryz.func30, Tryz.ntmps30
 go_wp2_with (go_at_call 60; refine (hC.out _).mono ?_; rintro e w1 ⟨rfl, hb⟩)
 go_ret2
 exact ⟨rfl, hb0.trans (hb.mono (by simp))⟩
theorem refEncode_yes (gn : Nat) (x : Ex) (w : World) (hg : gn < 18446744073709551616) (hx : KL .u64 w x.2.1 x.2.2) (hl : WL x.2.2) (hlen : x.2.2.length ≤ 800) (hr : rightB x = true) :
 Calls Tryz.prog 30 #[.int .u64 (gn : Nat), eV x] w fun e w' => ∃ v, e = .returned (.tuple #[v, .int .i64 0]) ∧ KL .u64 w' v (encW gn x.1.toNat x.2.2) ∧ Below w.heap.size w w' := by
 obtain ⟨a, v, l⟩ := x
 obtain ⟨A, cap, hv, _⟩ := hx.form rfl
 simp only [] at hv
 subst hv
 have hrr := canB_iff.1 hr
 simp only [] at hrr hlen hl
 obtain ⟨a, rfl⟩ := Int.eq_ofNat_of_zero_le hrr.1
 obtain ⟨i0, hi, hz0, hz1, hz2⟩ := info_parts infoU64
 have hb0 : Below w.heap.size w (w.alloc (.cells #[.int .i64 (a : Nat), .slice A l.length cap] (64 : Nat))) := bZ _ _
 have hC := refRight_any (a : Int) A l.length cap (w.alloc (.cells #[.int .i64 (a : Nat), .slice A l.length cap] (64 : Nat)))
 rw [show canB (a : Int) (l.length : Nat) = true from hr] at hC
 have kk := World.alloc_heap_new w (.cells #[.int .i64 (a : Nat), .slice A l.length cap] (64 : Nat))
 obtain ⟨n, hn⟩ : ∃ n, l.length = n := ⟨_, rfl⟩
 obtain ⟨f, hf⟩ : ∃ f, firstW gn a n = f := ⟨_, rfl⟩
 obtain ⟨q, hq⟩ : ∃ q, gn % 65536 = q := ⟨_, rfl⟩
 have hq2 : q < 65536 := by rw [← hq]; exact Nat.mod_lt _ (by decide)
 have hfl := firstW_lt gn a n (by omega) (by omega)
 have hE := lh (show encW gn ((a : Nat) : Int).toNat l = (f :: l) ++ [moreN 0 (f :: l)] from by unfold encW; rw [Int.toNat_natCast, hn, hf])
 have hWL : Hid (WL (f :: l)) := fun y hy => by
  rcases List.mem_cons.1 hy with rfl | hy
  ·rw [← hf]; exact hfl
  ·exact hl y hy
 have fa : IntKind.u64.wrap (a : Int) = (a : Int) := by rw [IntKind.wrap_u64]; omega
 have fn : IntKind.u64.wrap (n : Int) = (n : Int) := by rw [IntKind.wrap_u64]; omega
 have f1 : IntKind.u64.wrap (1048576 * (n : Int)) = 1048576 * (n : Int) := by rw [IntKind.wrap_u64]; omega
 have f2 : IntKind.u64.wrap ((a : Int) + 1048576 * (n : Int)) = (a : Int) + 1048576 * (n : Int) := by rw [IntKind.wrap_u64]; omega
 have fg : IntKind.u64.wrap (gn : Int) = (gn : Int) := by rw [IntKind.wrap_u64]; omega
 have f3 : (gn : Int) % 65536 = (q : Int) := by omega
 have f3' : (gn : Int).tmod 65536 = (q : Int) := by rw [Int.tmod_eq_emod_of_nonneg (by omega)]; omega
 have f4 : IntKind.u64.wrap (281474976710656 * (q : Int)) = 281474976710656 * (q : Int) := by rw [IntKind.wrap_u64]; omega
 have f5 : IntKind.u64.wrap ((a : Int) + 1048576 * (n : Int) + 281474976710656 * (q : Int)) = (f : Int) := by
  rw [IntKind.wrap_u64, ← hf]
  unfold firstW
  rw [hq]
  omega
 simp only [hn, eV, eE] at hC kk hb0 ⊢
 have hn800 : n ≤ 800 := by omega
 have hnh := lh hn
 have hxh : Hid (KL .u64 w (.slice A n cap) l) := by
  have q : KL .u64 w (.slice A l.length cap) l := hx
  rw [hn] at q
  exact q
 have hmn := moreN_lt 0 (f :: l)
 have fm : IntKind.u64.wrap ((moreN 0 (f :: l) : Nat) : Int) = ((moreN 0 (f :: l) : Nat) : Int) := by rw [IntKind.wrap_u64]; omega
 clear hx hr hrr hlen hl hn hf hfl hq
 go_enter Tryz.func30, Tryz.ntmps30
 go_wp2_with (first
  | (go_at_call 60; refine hC.mono ?_; rintro e w1 ⟨rfl, hb⟩; clear hC
     have hb1 := hb0.trans (hb.mono (by simp))
     have k0 : w1.heap[w.heap.size]? = some (.cells #[.int .i64 (a : Nat), .slice A n cap] (64 : Nat) (0, 0)) := (hb.block _ (by simp)).trans kk
     have hs1 : w.heap.size < w1.heap.size := (Array.getElem?_eq_some_iff.1 k0).1
     obtain ⟨p1, z1⟩ := row_cell k0 1
     obtain ⟨p0, z0⟩ := row_cell k0 0
     have hb2 : Below w1.heap.size w1 (w1.alloc (.cells #[.int .u64 (f : Nat)] (25 : Nat))) := bZ _ _
     have hO2 : OwnU (w1.alloc (.cells #[.int .u64 (f : Nat)] (25 : Nat))) w1.heap.size (.slice (some ⟨w1.heap.size, 0, none⟩) 1 1) [f] := World.ownsRow_lit (base := w1.heap.size) (e := 25) (size := 1) w1 #[.int .u64 (f : Nat)] 1 (Nat.le_refl _) (by unfold maxLen; omega) rfl
     obtain ⟨v4, w4, hr4, hO4, hb4⟩ := appW hO2 ((hxh.out.keep hb1).keep hb2) hb2.size (by simp) (by show l.length ≤ 1000000; rw [hnh.out]; omega)
     have hs1w : w.heap.size ≤ w1.heap.size := hb1.size
     have hb4w := lh (hb1.trans ((hb2.trans hb4).mono hb1.size))
     have hOf := refOf_any v4 (f :: l) w4 hWL.out (by rw [List.length_cons, hnh.out]; omega) hO4.kl.sl
     have hO4h := lh hO4
     have hs4 : w1.heap.size ≤ w4.heap.size := (hb2.trans hb4).size
     obtain ⟨A4, c4, hv4, _⟩ := hO4.form
     rw [show ([f] ++ l).length = n + 1 from by rw [List.length_append, hnh.out]; simp; omega] at hv4
     subst hv4
     clear hb hb0 kk hb1 hb2 hO2 hO4 hb4)
  | (at_builtin; refine wpList_append_run rfl _ _ 23 rfl _ _ _ rfl rfl hr4 ?_; clear hr4)
  | (go_at_call 36; refine hOf.mono ?_; rintro e w5 ⟨rfl, hb5⟩; clear hOf
     have hb6 : Below w5.heap.size w5 (w5.alloc (.cells #[.int .u64 ((moreN 0 (f :: l) : Nat) : Int)] (25 : Nat))) := bZ _ _
     obtain ⟨v7, w7, hr7, hO7, hb7⟩ := appW ((hO4h.out.keep hb5).keep hb6) (KL.one w5 (moreN 0 (f :: l)) 25) (Nat.le_trans hs4 (Nat.le_trans hb5.size hb6.size)) (by show ([f] ++ l).length ≤ 1000000; rw [List.length_append, hnh.out]; simp; omega) (by simp)
     have hK7 := lh hO7.kl
     have hb7w := lh (hb4w.out.trans ((hb5.mono hb4w.out.size).trans ((hb6.mono (Nat.le_trans hb4w.out.size hb5.size)).trans (hb7.mono hs1w))))
     obtain ⟨A7, c7, hv7, _⟩ := hO7.form
     rw [show ([f] ++ l ++ [moreN 0 (f :: l)]).length = n + 2 from by simp only [List.length_append, hnh.out, List.length_singleton]; omega] at hv7
     subst hv7
     clear hb5 hb6 hO7 hb7)
  | (at_builtin; refine wpList_append_run rfl _ _ 23 rfl _ _ _ rfl rfl hr7 ?_; clear hr7))
 go_ret2
 exact ⟨_, rfl, by rw [hE.out]; exact hK7.out, hb7w.out⟩
end Go.Proofs.YtkdhdibjbabgfaaGreatDoor
end
