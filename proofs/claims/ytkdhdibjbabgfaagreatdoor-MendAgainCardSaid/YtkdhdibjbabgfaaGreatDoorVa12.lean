/-
  Part of the proof of MendAgain.
-/
import Derived.Test.YtkdhdibjbabgfaaGreatDoorVa11
import Derived.Test.YtkdhdibjbabgfaaGreatDoorVa14
import Derived.Test.YtkdhdibjbabgfaaGreatDoorVa2
import Derived.Test.YtkdhdibjbabgfaaGreatDoorVa26
import Derived.Test.YtkdhdibjbabgfaaGreatDoorVa3
import Derived.Test.YtkdhdibjbabgfaaGreatDoorVa4
import Derived.Test.YtkdhdibjbabgfaaGreatDoorVa5
import Derived.Carry
import Derived.ChangeSlices
import Derived.Deep.SlicePairs
import Derived.OwnWalk
section
namespace Go.Proofs.YtkdhdibjbabgfaaGreatDoor
open Go.RowKit
def smW (a b c : Int) : Int := 10 + 73 * (1 + a % 64) + 33 * (1 + b % 200) + c % 33
def smL (a : Int) : Int := 1 + a % 64
set_option maxRecDepth 10000 in
set_option maxHeartbeats 400000 in
theorem small_any (a b c : Int) (w : World) (h1 : 0 ≤ a) (h2 : a ≤ 255) (h3 : 0 ≤ b) (h4 : b ≤ 255) (h5 : 0 ≤ c) (h6 : c ≤ 255) :
 Calls Tryz.prog 37 #[.int .u8 a, .int .u8 b, .int .u8 c] w fun e w' => e = .returned (.agg #[.int .i64 (smW a b c), .int .i64 (smL a)]) ∧ Below w.heap.size w w' := by
 go_enter Tryz.func37, Tryz.ntmps37
 go_wp2
 go_returns
 refine ⟨?_, by go_grown⟩
 unfold smW smL
 exact ret_g (by omega) (by omega)
end Go.Proofs.YtkdhdibjbabgfaaGreatDoor
end
section
set_option linter.unusedVariables false
namespace Go.Proofs.YtkdhdibjbabgfaaGreatDoor
open Go.RowKit
theorem SL.lit (w : World) (ws : List Nat) (t : TypeId) : SL (w.alloc (.cells (wv ws).toArray t)) (.slice (some ⟨w.heap.size, 0, none⟩) ws.length ws.length) ws := by
 refine .inr ⟨w.heap.size, 0, ws.length, rfl, by simp, Nat.le_refl _, fun i hi => ?_⟩
 have h : (w.alloc (.cells (wv ws).toArray t)).heap[w.heap.size]? = some (.cells (wv ws).toArray t (0, 0)) := heap_alloc_new w _
 rw [Nat.zero_add, (row_cell h i).1, List.getElem?_toArray, wv_at ws i hi]
def headL (W L G : Nat) : List Nat := [6076272092419149644, 1, W, L, G, 0, 0]
theorem head_WL {W L G : Nat} (h1 : W < 18446744073709551616) (h2 : L < 18446744073709551616) (h3 : G < 18446744073709551616) : WL (headL W L G) := fun x hx => by
 unfold headL at hx
 simp at hx
 omega
def gNat (W L : Nat) : Nat := (gN W L).toNat
theorem gNat_eq {W L : Nat} (h : gOk W L = true) : gN W L = (gNat W L : Int) := by
 have := gN_bd h
 unfold gNat
 omega
set_option maxRecDepth 10000 in
set_option maxHeartbeats 1000000 in
theorem senc_t (W L G : Nat) (w : World) (h : gOk W L = true) (hG : gN W L = (G : Int)) :
 Calls Tryz.prog 79 #[.agg #[.int .i64 W, .int .i64 L]] w fun e w' => ∃ g, e = .returned (.tuple #[.slice (some ⟨g, 0, none⟩) 8 8, .int .i64 0]) ∧ w.heap.size ≤ g ∧ Rw w' g (headL W L G ++ [moreN 0 (headL W L G)]) ∧ Below w.heap.size w w' := by
 obtain ⟨h1, h2, h3, h4⟩ := gOk_t h
 obtain ⟨n1, n2, n3, n4⟩ := gN_bd h
 rw [hG] at n1 n2 n3 n4
 have hR := Lib.hid (fun w => right_t W L w h)
 have hCh := Lib.hid (fun w => show Calls Tryz.prog 109 #[.agg #[.int .i64 W, .int .i64 L]] w fun e w' => e = .returned (.int .i64 G) ∧ Below w.heap.size w w' from by
  have := chunks_t W L w h
  rwa [hG] at this)
 have hWL : WL (headL W L G) := head_WL (by omega) (by omega) (by omega)
 replace hG := Lib.hid hG
 replace h := Lib.hid h
 have f1 : IntKind.u64.wrap (W : Int) = (W : Int) := by rw [IntKind.wrap_u64]; omega
 have f2 : IntKind.u64.wrap (L : Int) = (L : Int) := by rw [IntKind.wrap_u64]; omega
 have f3 : IntKind.u64.wrap (G : Int) = (G : Int) := by rw [IntKind.wrap_u64]; omega
 have hC0 := C2.new w (.int .i64 W) (.int .i64 L) 33
 go_enter Tryz.func79, Tryz.ntmps79
 go_wp2_with fail
 refine (hR.out _).mono ?_
 rintro e w1 ⟨rfl, hb1⟩
 have hB1 : Below w.heap.size w w1 := ((Below.refl _ _).alloc (Nat.le_refl _) _).trans (hb1.mono (by simp))
 have hd1 := hB1.drew
 obtain ⟨k0, k1⟩ := hC0.keep hb1
 clear hC0 hb1
 go_wp2_with fail
 refine wp_region_held_drew (S := (fun w' => w'.cell? ⟨w.heap.size, 0, none⟩ = some (.int .i64 W) ∧ w'.cell? ⟨w.heap.size, 1, none⟩ = some (.int .i64 L) ∧ Below w.heap.size w w')) (by kernel_rfl) ?_ (fun hHeld => ?_)
 ·(try dsimp only)
  first | exact ⟨k0, k1, hd1⟩ | exact ⟨cellK hHeld.1 hb, cellK hHeld.2.1 hb, hHeld.2.2.trans (hb.mono hHeld.2.2.size)⟩ | exact ⟨cellK hHeld.1 hb9, cellK hHeld.2.1 hb9, hHeld.2.2.trans (hb9.mono hHeld.2.2.size)⟩ | exact ⟨cellK hHeld.1 hb10, cellK hHeld.2.1 hb10, hHeld.2.2.trans (hb10.mono hHeld.2.2.size)⟩
 refine takeQ 0 ?_
 refine takeQ 1 ?_
 refine takeQ 2 ?_
 refine takeQ 3 ?_
 refine takeQ 4 ?_
 refine takeQ 5 ?_
 refine takeQ 6 ?_
 refine oneL 7 rfl (by kernel_rfl) (fun K hK => ?_)
 go_simp
 (go_at_call 109; (with_reducible refine (hCh.out _).mono ?_); rintro e w8 ⟨rfl, hb⟩)
 refine hK.out _ _ ?_ (fun hHeld2 => ?_)
 ·(try dsimp only)
  first | exact ⟨k0, k1, hd1⟩ | exact ⟨cellK hHeld.1 hb, cellK hHeld.2.1 hb, hHeld.2.2.trans (hb.mono hHeld.2.2.size)⟩ | exact ⟨cellK hHeld.1 hb9, cellK hHeld.2.1 hb9, hHeld.2.2.trans (hb9.mono hHeld.2.2.size)⟩ | exact ⟨cellK hHeld.1 hb10, cellK hHeld.2.1 hb10, hHeld.2.2.trans (hb10.mono hHeld.2.2.size)⟩
 clear hK K hHeld
 have hHeld := hHeld2
 clear hHeld2
 try simp only [Act.put, List.setIfInBounds_toArray, List.set_cons_zero, List.set_cons_succ]
 refine takeQ 8 ?_
 refine oneL 9 rfl (by kernel_rfl) (fun K hK => ?_)
 go_simp
 (have hS7 : SL (w8.alloc (.cells #[.int .u64 6076272092419149644, .int .u64 1, .int .u64 W, .int .u64 L, .int .u64 G, .int .u64 0, .int .u64 0] 25)) (.slice (some ⟨w8.heap.size, 0, none⟩) 7 7) (headL W L G) := SL.lit w8 (headL W L G) _; have hs8 : w.heap.size ≤ w8.heap.size := hHeld.2.2.size; have hb9 := (Below.refl w8.heap.size w8).alloc (Nat.le_refl _) (.cells #[.int .u64 6076272092419149644, .int .u64 1, .int .u64 W, .int .u64 L, .int .u64 G, .int .u64 0, .int .u64 0] 25))
 refine hK.out _ _ ?_ (fun hHeld2 => ?_)
 ·(try dsimp only)
  first | exact ⟨k0, k1, hd1⟩ | exact ⟨cellK hHeld.1 hb, cellK hHeld.2.1 hb, hHeld.2.2.trans (hb.mono hHeld.2.2.size)⟩ | exact ⟨cellK hHeld.1 hb9, cellK hHeld.2.1 hb9, hHeld.2.2.trans (hb9.mono hHeld.2.2.size)⟩ | exact ⟨cellK hHeld.1 hb10, cellK hHeld.2.1 hb10, hHeld.2.2.trans (hb10.mono hHeld.2.2.size)⟩
 clear hK K hHeld
 have hHeld := hHeld2
 clear hHeld2
 try simp only [Act.put, List.setIfInBounds_toArray, List.set_cons_zero, List.set_cons_succ]
 refine oneL 10 rfl (by kernel_rfl) (fun K hK => ?_)
 go_simp
 (go_at_call 108; refine (seal_own _ (headL W L G) _ hWL (by simp [headL]) hS7).mono ?_; rintro e w10 ⟨rfl, hS10, hb10⟩)
 refine hK.out _ _ ?_ (fun hHeld2 => ?_)
 ·(try dsimp only)
  first | exact ⟨k0, k1, hd1⟩ | exact ⟨cellK hHeld.1 hb, cellK hHeld.2.1 hb, hHeld.2.2.trans (hb.mono hHeld.2.2.size)⟩ | exact ⟨cellK hHeld.1 hb9, cellK hHeld.2.1 hb9, hHeld.2.2.trans (hb9.mono hHeld.2.2.size)⟩ | exact ⟨cellK hHeld.1 hb10, cellK hHeld.2.1 hb10, hHeld.2.2.trans (hb10.mono hHeld.2.2.size)⟩
 clear hK K hHeld
 have hHeld := hHeld2
 clear hHeld2
 try simp only [Act.put, List.setIfInBounds_toArray, List.set_cons_zero, List.set_cons_succ]
 refine takeQ 11 ?_
 refine takeQ 12 ?_
 refine wpAnyH_done (by kernel_rfl) ?_ _
 go_wp2_with fail
 go_ret2
 exact ⟨w8.heap.size + 1, rfl, Nat.le_succ_of_le hs8, by simpa using hS10, hHeld.2.2⟩
set_option maxRecDepth 10000 in
set_option maxHeartbeats 1000000 in
theorem senc_f (W L : Int) (w : World) (h : gOk W L = false) :
 Calls Tryz.prog 79 #[.agg #[.int .i64 W, .int .i64 L]] w fun e w' => e = .returned (.tuple #[.slice none 0 0, .int .i64 1]) ∧ Below w.heap.size w w' := by
 have hR := Lib.hid (fun w => right_f W L w h)
 replace h := Lib.hid h
 go_enter Tryz.func79, Tryz.ntmps79
 go_wp2_with fail
 refine (hR.out _).mono ?_
 rintro e w1 ⟨rfl, hb1⟩
 have hB1 : Below w.heap.size w w1 := ((Below.refl _ _).alloc (Nat.le_refl _) _).trans (hb1.mono (by simp))
 go_wp2_with fail
 go_ret2
 exact ⟨rfl, hB1⟩
end Go.Proofs.YtkdhdibjbabgfaaGreatDoor
end
section
set_option linter.unusedVariables false
namespace Go.Proofs.YtkdhdibjbabgfaaGreatDoor
open Go.RowKit
def FB (x : Sp) : Prop := 0 ≤ x.1 ∧ x.1 ≤ 1099511627776 ∧ 0 ≤ x.2 ∧ x.2 ≤ 40
instance (x : Sp) : Decidable (FB x) := by unfold FB; infer_instance
theorem PL.lit (w : World) (l : List Sp) (hl : l.length ≤ 1000) : PL (w.alloc (.cells (spv l).toArray (51 : Nat))) (.slice (some ⟨w.heap.size, 0, none⟩) l.length l.length) l := by
 have := World.ownsRow_lit (base := w.heap.size) (e := 51) (size := 2) w (spv l).toArray l.length (Nat.le_refl _) (by unfold maxLen; omega) (by simp [spv_len])
 exact OwnSp.pl (base := w.heap.size) this
end Go.Proofs.YtkdhdibjbabgfaaGreatDoor
end
section
set_option linter.unusedVariables false
namespace Go.Proofs.YtkdhdibjbabgfaaGreatDoor
open Go.RowKit
theorem infoInt : (Tryz.prog.info? 3).map (fun i => (i.zero, i.size, i.bytes)) = some (some (.int .i64 0), 1, 8) := by kernel_rfl
def OwnI (w : World) (base : Nat) (v : Value) (l : List Int) : Prop := w.ownsRow base 3 1 v l.length (l.map fun x : Int => Value.int .i64 x)
theorem OwnI.keep {w w1 : World} {base : Nat} {v : Value} {l : List Int} (h : OwnI w base v l) (hb : Below w.heap.size w w1) : OwnI w1 base v l := by
 refine ⟨h.1, ?_⟩
 rcases h.2 with h2 | ⟨g, cap, cur, hv, hbg, hg, h1, h2, h3, h4⟩
 ·exact .inl h2
 ·exact .inr ⟨g, cap, cur, hv, hbg, by rw [hb.block g (Array.getElem?_eq_some_iff.1 hg).1]; exact hg, h1, h2, h3, h4⟩
theorem appI {w : World} {base g : Nat} {y : Int} {v : Value} {l : List Int} (hown : OwnI w base v l) (hx : w.cell? ⟨g, 0, none⟩ = some (.int .i64 y)) (hb : base ≤ w.heap.size) (hsm : l.length ≤ 2000000) :
 ∃ v' w', (Builtin.append_ #[87, 87] 87 #[v, .slice (some ⟨g, 0, none⟩) 1 1]).run Tryz.prog w = .ok v' w' ∧ OwnI w' base v' (l ++ [y]) ∧ Below base w w' := by
 obtain ⟨i0, hi, hz0, hz1, hz2⟩ := info_parts infoInt
 obtain ⟨v', w', hrun, h1, h2, _, h4⟩ := run_append_own_at (P := Tryz.prog) w base 87 87 3 i0 (.int .i64 0) 1 8 Tryz.underlying87 hi hz0 hz1 hz2 rfl (by decide) v l.length _ hown ⟨g, 0, none⟩ 1 1 [.int .i64 y] rfl
  (fun j u hj => by
    match j, hj with
    | 0, hj => simp only [List.getElem?_cons_zero] at hj; rw [← hj]; simpa [Addr.add] using hx
    | j + 1, hj => simp at hj) (by simp [Value.oneCell']) (by unfold maxLen; omega) (by omega) hb
 refine ⟨v', w', hrun, ?_, (Below.refl base w).grown h2 hb (fun j hj => (World.ownsRow.lt hown j hj).1)⟩
 unfold OwnI
 rw [List.length_append, List.map_append]
 exact h1
theorem placesL_tk (l : List Sp) (h : PBs l) (k : Nat) (hk : k ≤ l.length) : (placesL (l.take k)).length ≤ 1000 * k := by
 have hp : PBs (l.take k) := fun x hx => h x (List.mem_of_mem_take hx)
 have h1 := placesL_len (l.take k) hp
 have h2 := totS_le (l.take k) hp
 rw [List.length_take, Nat.min_eq_left hk] at h2
 omega
set_option maxRecDepth 10000 in
set_option maxHeartbeats 500000 in
theorem refPlaces_any (v : Value) (l : List Sp) (w : World) (hl : PBs l) (hlen : l.length ≤ 1000) (hv : PL w v l) :
 Calls Tryz.prog 61 #[v] w fun e w' => ∃ v', e = .returned v' ∧ OwnI w' w.heap.size v' (placesL l) ∧ Below w.heap.size w w' := by
 obtain ⟨n, hn⟩ : ∃ n, l.length = n := ⟨_, rfl⟩
 obtain ⟨A, cap, rfl, hC⟩ := hv.form hn
 have hI := Lib.hid (fun i (hi : i < n) => hl.at i (by omega))
 have hT := Lib.hid (fun i (hi : i < n) => places_take l i (by omega))
 have hL := Lib.hid (fun i (hi : i ≤ n) => placesL_tk l hl i (by omega))
 have hE := Lib.hid (show placesL (l.take n) = placesL l from by rw [List.take_of_length_le (by omega)])
 replace hC := Lib.hid hC
 have hln : n ≤ 1000 := by omega
 clear hv hlen hl
 replace hn := Lib.hid hn
 go_enter Tryz.func61, Tryz.ntmps61
 go_wp2_with fail
 go_loopw [3, 4, 5] (fun o x z wr => ∃ (k : Nat) (L : List Int), k ≤ n ∧ x = .int .i64 k ∧ Hid (L = placesL (l.take k)) ∧ L.length ≤ 1000 * k ∧ OwnI wr w.heap.size o L ∧ Below w.heap.size w wr) (fun _ x _ _ => n + 1 - (intOf x).toNat)
 case atStart => exact ⟨0, [], Nat.zero_le _, rfl, rfl, by simp, World.ownsRow_nil _ _ _ _, Below.refl _ _⟩
 case round =>
  obtain ⟨k, L, hk, rfl, hLe, hLl, hown, hB⟩ := hrel
  by_cases hlt : k < n
  ·have hlt' : (k : Int) < (n : Int) := by omega
   have hxi := hI.out k hlt
   have hT1 := Lib.hid (hT.out k hlt)
   have hL1 := hL.out (k + 1) (by omega)
   rw [← hLe.out] at hT1
   have hCk := Lib.hid (fun w1 (hb : Below w.heap.size w w1) => hC.out w1 k hb hlt)
   generalize l.getD k (0, 0) = x at *
   obtain ⟨b1, b2, b3, b4⟩ := id hxi
   obtain ⟨m, hm⟩ : ∃ m, m = x.2.toNat := ⟨_, rfl⟩
   have hmx : (m : Int) = x.2 := by omega
   rw [← hm] at hT1
   have hm9 : m ≤ 1000 := by omega
   replace hmx := Lib.hid hmx
   replace hm := Lib.hid hm
   go_wp2_with fail
   go_loopw [3, 5] (fun o z wq => ∃ (j : Nat) (L' : List Int), j ≤ m ∧ z = .int .i64 j ∧ Hid (L' = L ++ pwL x j) ∧ L'.length = L.length + j ∧ OwnI wq w.heap.size o L' ∧ Below w.heap.size w wq) (fun _ z _ => m + 1 - (intOf z).toNat)
   case atStart => exact ⟨0, L, Nat.zero_le _, rfl, by show L = _; simp [pwL], rfl, hown, hB⟩
   case round =>
    clear hown hB
    obtain ⟨j, L', hj, rfl, hL2, hl2, hownq, hBq⟩ := hrel
    obtain ⟨g, off, rfl, hcap, hg, c0, c1⟩ := hCk.out wr hBq
    by_cases hjl : j < m
    ·have q1 : (j : Int) < x.2 := by have := hmx.out; omega
     have hLn := Lib.hid (show L' ++ [x.1 + (j : Int)] = L ++ pwL x (j + 1) from by rw [hL2.out, pwL_succ, List.append_assoc])
     obtain ⟨v', w1, hrun, hown', hgr⟩ := appI (w := wr.alloc (.cells #[.int .i64 (x.1 + (j : Int))] (3 : Nat))) (y := x.1 + (j : Int)) (base := w.heap.size) (hownq.keep ((Below.refl _ _).alloc (Nat.le_refl _) _)) (cell_new1 wr _ _) (by have := hBq.size; simp; omega) (by omega)
     have hB1 := (hBq.alloc hBq.size (.cells #[.int .i64 (x.1 + (j : Int))] (3 : Nat))).trans hgr
     clear hgr hownq hBq
     go_wp2_with (at_builtin; refine wpList_append_run rfl _ _ 87 rfl _ _ _ rfl rfl hrun ?_)
     go_roundw
     case rel => exact ⟨j + 1, _, by omega, by go_num, hLn, by rw [List.length_append, hl2]; rfl, hown', hB1⟩
     case measure => simp [intOf]; omega
    ·obtain rfl : j = m := by omega
     have q1 : x.2 ≤ (j : Int) := by have := hmx.out; omega
     have hfin := Lib.hid (show L' = placesL (l.take (k + 1)) from by rw [hL2.out, hT1.out])
     have hfl : L'.length ≤ 1000 * (k + 1) := by rw [hfin.out]; exact hL1
     go_wp2_with fail
     exact ⟨⟨k + 1, _, by omega, by go_num, hfin, hfl, hownq, hBq⟩, by simp [intOf]; omega⟩
  ·obtain rfl : k = n := by omega
   have hR := Lib.hid (show L = placesL l from by rw [hLe.out, hE.out])
   go_wp2_with fail
   go_ret
   exact ⟨_, rfl, by rw [← hR.out]; exact hown, hB⟩
end Go.Proofs.YtkdhdibjbabgfaaGreatDoor
end
section
set_option linter.unusedVariables false
set_option linter.unusedSimpArgs false
namespace Go.Proofs.YtkdhdibjbabgfaaGreatDoor
open Go.RowKit Go.ChangeShapes Go.WideShapes Go.Deep
set_option maxRecDepth 10000 in
set_option maxHeartbeats 1000000 in
theorem refRight_any (a : Int) (A : Option Addr) (m cap : Nat) (w : World) : Calls Tryz.prog 60 #[.agg #[.int .i64 a, .slice A m cap]] w fun e w' => e = .returned (.bool (canB a m)) ∧ Below w.heap.size w w' := by
 unfold canB
 have hb0 : Below w.heap.size w (w.alloc (.cells #[.int .i64 a, .slice A m cap] (64 : Nat))) := (Below.refl _ _).alloc (Nat.le_refl _) _
 by_cases k1 : 0 ≤ a
 ·by_cases k2 : a < 65536
  ·replace k2 : a ≤ 65535 := by omega
   by_cases k3 : 0 < m
   ·have k3' : (0 : Int) < (m : Int) := by omega
    by_cases k4 : m ≤ 4096
    ·have k4' : (m : Int) ≤ 4096 := by omega
     rw [decide_eq_true k1, decide_eq_true (show a < 65536 by omega), decide_eq_true (show (1 : Int) ≤ m by omega), decide_eq_true (show (m : Int) ≤ 4096 by omega)]
     go_enter Tryz.func60, Tryz.ntmps60
     go_wp2_with fail
     go_ret
     exact ⟨ret_b (by simp; try omega), hb0⟩
    ·have k4' : (4096 : Int) < (m : Int) := by omega
     rw [decide_eq_true k1, decide_eq_true (show a < 65536 by omega), decide_eq_true (show (1 : Int) ≤ m by omega), decide_eq_false (show ¬ (m : Int) ≤ 4096 by omega)]
     go_enter Tryz.func60, Tryz.ntmps60
     go_wp2_with fail
     go_ret
     exact ⟨ret_b (by simp; try omega), hb0⟩
   ·obtain rfl : m = 0 := by omega
    rw [decide_eq_true k1, decide_eq_true (show a < 65536 by omega), decide_eq_false (show ¬ (1 : Int) ≤ ((0 : Nat) : Int) by omega)]
    go_enter Tryz.func60, Tryz.ntmps60
    go_wp2_with fail
    go_ret
    exact ⟨ret_b (by simp; try omega), hb0⟩
  ·replace k2 : 65535 < a := by omega
   rw [decide_eq_true k1, decide_eq_false (show ¬ a < 65536 by omega)]
   go_enter Tryz.func60, Tryz.ntmps60
   go_wp2_with fail
   go_ret
   exact ⟨ret_b (by simp; try omega), hb0⟩
 ·rw [decide_eq_false k1]
  replace k1 : a < 0 := by omega
  go_enter Tryz.func60, Tryz.ntmps60
  go_wp2_with fail
  go_ret
  exact ⟨ret_b (by simp; try omega), hb0⟩
set_option maxRecDepth 10000 in
set_option maxHeartbeats 1000000 in
theorem refEncode_no (gn : Int) (a : Int) (A : Option Addr) (m cap : Nat) (w : World) (hr : canB a m = false) :
 Calls Tryz.prog 30 #[.int .u64 gn, .agg #[.int .i64 a, .slice A m cap]] w fun e w' => e = .returned (.tuple #[.slice none 0 0, .int .i64 1]) ∧ Below w.heap.size w w' := by
 have hb0 : Below w.heap.size w (w.alloc (.cells #[.int .i64 a, .slice A m cap] (64 : Nat))) := (Below.refl _ _).alloc (Nat.le_refl _) _
 have hC := Lib.hid (fun w => refRight_any a A m cap w)
 rw [hr] at hC
 clear hr
 go_enter Tryz.func30, Tryz.ntmps30
 go_wp2_with (go_at_call 60; refine (hC.out _).mono ?_; rintro e w1 ⟨rfl, hb⟩)
 go_ret2
 exact ⟨rfl, hb0.trans (hb.mono (by simp))⟩
set_option maxRecDepth 10000 in
set_option maxHeartbeats 1000000 in
theorem refEncode_yes (gn : Nat) (x : Ex) (w : World) (hg : gn < 18446744073709551616) (hx : KL .u64 w x.2.1 x.2.2) (hl : WL x.2.2) (hlen : x.2.2.length ≤ 800) (hr : rightB x = true) :
 Calls Tryz.prog 30 #[.int .u64 (gn : Nat), eV x] w fun e w' => ∃ v, e = .returned (.tuple #[v, .int .i64 0]) ∧ KL .u64 w' v (encW gn x.1.toNat x.2.2) ∧ Below w.heap.size w w' := by
 obtain ⟨a, v, l⟩ := x
 obtain ⟨A, cap, hv, _⟩ := hx.form rfl
 simp only [] at hv
 subst hv
 have hrr := canB_iff.1 hr
 simp only [] at hrr hlen hl
 obtain ⟨a, rfl⟩ := Int.eq_ofNat_of_zero_le hrr.1
 obtain ⟨i0, hi, hz0, hz1, hz2⟩ := info_parts infoU64
 have hb0 : Below w.heap.size w (w.alloc (.cells #[.int .i64 (a : Nat), .slice A l.length cap] (64 : Nat))) := (Below.refl _ _).alloc (Nat.le_refl _) _
 have hC := refRight_any (a : Int) A l.length cap (w.alloc (.cells #[.int .i64 (a : Nat), .slice A l.length cap] (64 : Nat)))
 rw [show canB (a : Int) (l.length : Nat) = true from hr] at hC
 have kk := World.alloc_heap_new w (.cells #[.int .i64 (a : Nat), .slice A l.length cap] (64 : Nat))
 obtain ⟨n, hn⟩ : ∃ n, l.length = n := ⟨_, rfl⟩
 obtain ⟨f, hf⟩ : ∃ f, firstW gn a n = f := ⟨_, rfl⟩
 obtain ⟨q, hq⟩ : ∃ q, gn % 65536 = q := ⟨_, rfl⟩
 have hq2 : q < 65536 := by rw [← hq]; exact Nat.mod_lt _ (by decide)
 have hfl := firstW_lt gn a n (by omega) (by omega)
 have hE := Lib.hid (show encW gn ((a : Nat) : Int).toNat l = (f :: l) ++ [moreN 0 (f :: l)] from by unfold encW; rw [Int.toNat_natCast, hn, hf])
 have hWL : Hid (WL (f :: l)) := fun y hy => by
  rcases List.mem_cons.1 hy with rfl | hy
  ·rw [← hf]; exact hfl
  ·exact hl y hy
 have fa : IntKind.u64.wrap (a : Int) = (a : Int) := by rw [IntKind.wrap_u64]; omega
 have fn : IntKind.u64.wrap (n : Int) = (n : Int) := by rw [IntKind.wrap_u64]; omega
 have f1 : IntKind.u64.wrap (1048576 * (n : Int)) = 1048576 * (n : Int) := by rw [IntKind.wrap_u64]; omega
 have f2 : IntKind.u64.wrap ((a : Int) + 1048576 * (n : Int)) = (a : Int) + 1048576 * (n : Int) := by rw [IntKind.wrap_u64]; omega
 have fg : IntKind.u64.wrap (gn : Int) = (gn : Int) := by rw [IntKind.wrap_u64]; omega
 have f3 : (gn : Int) % 65536 = (q : Int) := by omega
 have f3' : (gn : Int).tmod 65536 = (q : Int) := by rw [Int.tmod_eq_emod_of_nonneg (by omega)]; omega
 have f4 : IntKind.u64.wrap (281474976710656 * (q : Int)) = 281474976710656 * (q : Int) := by rw [IntKind.wrap_u64]; omega
 have f5 : IntKind.u64.wrap ((a : Int) + 1048576 * (n : Int) + 281474976710656 * (q : Int)) = (f : Int) := by
  rw [IntKind.wrap_u64, ← hf]
  unfold firstW
  rw [hq]
  omega
 simp only [hn, eV, eE] at hC kk hb0 ⊢
 have hn800 : n ≤ 800 := by omega
 have hnh := Lib.hid hn
 have hxh : Hid (KL .u64 w (.slice A n cap) l) := by
  have q : KL .u64 w (.slice A l.length cap) l := hx
  rw [hn] at q
  exact q
 have hmn := moreN_lt 0 (f :: l)
 have fm : IntKind.u64.wrap ((moreN 0 (f :: l) : Nat) : Int) = ((moreN 0 (f :: l) : Nat) : Int) := by rw [IntKind.wrap_u64]; omega
 clear hx hr hrr hlen hl hn hf hfl hq
 go_enter Tryz.func30, Tryz.ntmps30
 go_wp2_with (first
  | (go_at_call 60; refine hC.mono ?_; rintro e w1 ⟨rfl, hb⟩; clear hC
     have hb1 := hb0.trans (hb.mono (by simp))
     have k0 : w1.heap[w.heap.size]? = some (.cells #[.int .i64 (a : Nat), .slice A n cap] (64 : Nat) (0, 0)) := (hb.block _ (by simp)).trans kk
     have hs1 : w.heap.size < w1.heap.size := (Array.getElem?_eq_some_iff.1 k0).1
     obtain ⟨p1, z1⟩ := row_cell k0 1
     obtain ⟨p0, z0⟩ := row_cell k0 0
     have hb2 : Below w1.heap.size w1 (w1.alloc (.cells #[.int .u64 (f : Nat)] (25 : Nat))) := (Below.refl _ _).alloc (Nat.le_refl _) _
     have hO2 : OwnU (w1.alloc (.cells #[.int .u64 (f : Nat)] (25 : Nat))) w1.heap.size (.slice (some ⟨w1.heap.size, 0, none⟩) 1 1) [f] := World.ownsRow_lit (base := w1.heap.size) (e := 25) (size := 1) w1 #[.int .u64 (f : Nat)] 1 (Nat.le_refl _) (by unfold maxLen; omega) rfl
     obtain ⟨v4, w4, hr4, hO4, hb4⟩ := appW hO2 ((hxh.out.keep hb1).keep hb2) hb2.size (by simp) (by show l.length ≤ 1000000; rw [hnh.out]; omega)
     have hs1w : w.heap.size ≤ w1.heap.size := hb1.size
     have hb4w := Lib.hid (hb1.trans ((hb2.trans hb4).mono hb1.size))
     have hOf := refOf_any v4 (f :: l) w4 hWL.out (by rw [List.length_cons, hnh.out]; omega) hO4.kl.sl
     have hO4h := Lib.hid hO4
     have hs4 : w1.heap.size ≤ w4.heap.size := (hb2.trans hb4).size
     obtain ⟨A4, c4, hv4, _⟩ := hO4.form
     rw [show ([f] ++ l).length = n + 1 from by rw [List.length_append, hnh.out]; simp; omega] at hv4
     subst hv4
     clear hb hb0 kk hb1 hb2 hO2 hO4 hb4)
  | (at_builtin; refine wpList_append_run rfl _ _ 23 rfl _ _ _ rfl rfl hr4 ?_; clear hr4)
  | (go_at_call 36; refine hOf.mono ?_; rintro e w5 ⟨rfl, hb5⟩; clear hOf
     have hb6 : Below w5.heap.size w5 (w5.alloc (.cells #[.int .u64 ((moreN 0 (f :: l) : Nat) : Int)] (25 : Nat))) := (Below.refl _ _).alloc (Nat.le_refl _) _
     obtain ⟨v7, w7, hr7, hO7, hb7⟩ := appW ((hO4h.out.keep hb5).keep hb6) (KL.one w5 (moreN 0 (f :: l)) 25) (Nat.le_trans hs4 (Nat.le_trans hb5.size hb6.size)) (by show ([f] ++ l).length ≤ 1000000; rw [List.length_append, hnh.out]; simp; omega) (by simp)
     have hK7 := Lib.hid hO7.kl
     have hb7w := Lib.hid (hb4w.out.trans ((hb5.mono hb4w.out.size).trans ((hb6.mono (Nat.le_trans hb4w.out.size hb5.size)).trans (hb7.mono hs1w))))
     obtain ⟨A7, c7, hv7, _⟩ := hO7.form
     rw [show ([f] ++ l ++ [moreN 0 (f :: l)]).length = n + 2 from by simp only [List.length_append, hnh.out, List.length_singleton]; omega] at hv7
     subst hv7
     clear hb5 hb6 hO7 hb7)
  | (at_builtin; refine wpList_append_run rfl _ _ 23 rfl _ _ _ rfl rfl hr7 ?_; clear hr7))
 go_ret2
 exact ⟨_, rfl, by rw [hE.out]; exact hK7.out, hb7w.out⟩
end Go.Proofs.YtkdhdibjbabgfaaGreatDoor
end
