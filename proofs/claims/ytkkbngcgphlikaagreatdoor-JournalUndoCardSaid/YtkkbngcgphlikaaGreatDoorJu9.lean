/-
  Part of the proof of JournalUndo.
-/
import Derived.Test.YtkkbngcgphlikaaGreatDoorJu10
import Derived.Test.YtkkbngcgphlikaaGreatDoorJu8
import Derived.Test.YtkkbngcgphlikaaGreatDoorJu0
set_option maxRecDepth 100000
set_option maxHeartbeats 1000000
set_option linter.unusedVariables false
set_option linter.unusedSimpArgs false
section
namespace Go.Proofs.YtkkbngcgphlikaaGreatDoor
open Go.RowKit Go.ChangeShapes Go.WideShapes Go.Deep
theorem KL.one (w : World) (a : Nat) (t : TypeId) : KL .u64 (w.alloc (.cells #[.int .u64 (a : Nat)] t)) (.slice (some ⟨w.heap.size, 0, none⟩) 1 1) [a] := by
 refine ⟨_, _, rfl, fun _ => ⟨_, 0, rfl, by simp, Nat.le_refl _, fun i hi => ?_⟩⟩
 simp only [List.length_singleton] at hi
 obtain rfl : i = 0 := by omega
 exact (row_cell (World.alloc_heap_new w _) 0).1
theorem firstW_lt (g a m : Nat) (ha : a < 1048576) (hm : m < 65536) : firstW g a m < 18446744073709551616 := by
 unfold firstW
 have : g % 65536 < 65536 := Nat.mod_lt _ (by decide)
 generalize g % 65536 = k at *
 omega
end Go.Proofs.YtkkbngcgphlikaaGreatDoor
end
section
namespace Go.Proofs.YtkkbngcgphlikaaGreatDoor
open Go.RowKit Go.ChangeShapes Go.WideShapes Go.Deep
def C2 (w : World) (b : Nat) (x y : Value) : Prop := w.cell? ⟨b, 0, none⟩ = some x ∧ w.cell? ⟨b, 1, none⟩ = some y
theorem C2.lt {w : World} {b : Nat} {x y : Value} (h : C2 w b x y) : b < w.heap.size := World.block_lt_of_cell? w _ h.1
theorem C2.keep {W w1 : World} {b : Nat} {x y : Value} (h : C2 W b x y) (hb : Below W.heap.size W w1) : C2 w1 b x y :=
 ⟨by rw [(bcell hb).1 _ _ h.lt]; exact h.1, by rw [(bcell hb).1 _ _ h.lt]; exact h.2⟩
theorem C2.new (w : World) (x y : Value) (t : TypeId) : C2 (w.alloc (.cells #[x, y] t)) w.heap.size x y := by
 refine ⟨?_, ?_⟩ <;> simp [go_sem]
theorem C2.alloc {W : World} {b : Nat} {x y : Value} (h : C2 W b x y) (o : Obj) : C2 (W.alloc o) b x y :=
 h.keep (bZ _ _)
theorem C2.drew {W : World} {b : Nat} {x y : Value} (h : C2 W b x y) : C2 W.drew b x y := h
def F2 (w : World) (b : Nat) : Prop := w.frozen? ⟨b, 0, none⟩ = false ∧ w.frozen? ⟨b, 1, none⟩ = false
theorem F2.keep {W w1 : World} {b : Nat} (h : F2 W b) (hl : b < W.heap.size) (hb : Below W.heap.size W w1) : F2 w1 b :=
 ⟨by rw [(bcell hb).2 _ _ hl]; exact h.1, by rw [(bcell hb).2 _ _ hl]; exact h.2⟩
theorem F2.drew {W : World} {b : Nat} (h : F2 W b) : F2 W.drew b := h
theorem F2.new (w : World) (x y : Value) (t : TypeId) : F2 (w.alloc (.cells #[x, y] t)) w.heap.size := by
 refine ⟨?_, ?_⟩ <;> simp [go_sem]
theorem F2.alloc {W : World} {b : Nat} (h : F2 W b) (hl : b < W.heap.size) (o : Obj) : F2 (W.alloc o) b :=
 h.keep hl (bZ _ _)
theorem st2_ex {W : World} {g : Nat} {a b : Value} (h : C2 W g a b) (x y : Value) : ∃ w9, w9 = ((W.setCell ⟨g, 0, none⟩ x).setCell ⟨g, 1, none⟩ y) ∧ C2 w9 g x y ∧ Below g W w9 := by
 obtain ⟨h0, h1⟩ := h
 refine ⟨_, rfl, ?_, ((Below.refl _ _).setCell (by simp) _).setCell (by simp) _⟩
 refine ⟨?_, ?_⟩ <;> simp [go_sem, *]
theorem run_slice_from {P : Program} {ty e : TypeId} {i0 : TypeInfo} {sz : Nat} (hu : P.underlying ty = some (.slice e)) (hi : P.info? e = some i0) (hs : i0.size = sz) (A : Option Addr) (n cap t : Nat) (h : t ≤ n) (w : World) :
 (Instr.slice ty (.slice A n cap) (some (.int .i64 (t : Int))) none none).run P w = .ok (.slice (if cap = t then A else A.map (·.add (t * sz))) (n - t) (cap - t)) w := by
 subst hs
 have h1 : (t : Int) ≤ (n : Int) := by omega
 have h2 : (0 : Int) ≤ (t : Int) := by omega
 simp [Instr.slice, run_underlying hu, Instr.sliceBounds, Instr.sliceBound, asIntOf, sizeOf, typeInfo, hi, h2, h1, go_sem]
 exact fun h' => by omega
theorem open_no (l : List Nat) (N g off cap : Nat) (w : World) (hl : WL l) (hlen : l.length ≤ 900) (hN : l.length = N + 1) (hcap : N + 1 ≤ cap) (hg : g < w.heap.size) (hc : Hid (∀ i, i < N + 1 → w.cell? ⟨g, off + i, none⟩ = some (.int .u64 (l.getD i 0 : Nat))))
 (hne : ¬ l.getD N 0 = moreN 0 (l.take N)) :
 Calls Tryz.prog 200 #[.slice (some ⟨g, off, none⟩) (N + 1) cap] w fun e w' => e = .returned (.tuple #[.slice none 0 0, .bool false]) ∧ Below w.heap.size w w' := by
 have hlast := hc.out N (by omega)
 have hx := hl.at N (by omega)
 have hm := moreN_lt 0 (l.take N)
 have hO := lh (fun w1 (hb : Below w.heap.size w w1) => of_any (.slice (some ⟨g, off, none⟩) N cap) (l.take N) w1 (fun x hx => hl x (List.mem_of_mem_take hx)) (by simp; omega) (sl_take hN hcap hg hc.out hb N (by omega)))
 generalize moreN 0 (l.take N) = m at *
 generalize l.getD N 0 = x at *
 have q1 : (N : Int) < (N : Int) + 1 := by omega
 have q2 : (N : Int) ≤ (cap : Int) := by omega
 have q3 : (0 : Int) ≤ (N : Int) := by omega
 have hd := (Below.refl w.heap.size w).drew
 have T : ((x : Int) == (m : Int)) = false := by rw [beq_eq_false_iff_ne]; omega
 have T2 : ((x : Int) != IntKind.u64.wrap (m : Int)) = true := by rw [IntKind.wrap_u64, bne_iff_ne]; omega
 go_enter Tryz.func200, Tryz.ntmps200
 go_wp2_with fail
 go_region_held3 (fun w' => w'.cell? ⟨g, off + N, none⟩ = some (.int .u64 x) ∧ Below w.heap.size w w')
  (((try go_split_ands); refine ⟨?_, ?_⟩ <;> first | assumption | (exact cellK (by assumption) hb) | (exact Below.trans (by assumption) (hb.mono (Below.size (by assumption))))))
  (((try go_split_ands); first | (go_at_call 157; (with_reducible refine (hO.out _ (by assumption)).mono ?_); rintro e w8 ⟨rfl, hb⟩)))
 go_wp2_with fail
 go_split_ands
 go_ret2
 exact ⟨rfl, by assumption⟩
theorem open_yes (l : List Nat) (N g off cap : Nat) (w : World) (hl : WL l) (hlen : l.length ≤ 900) (hN : l.length = N + 1) (hcap : N + 1 ≤ cap) (hg : g < w.heap.size) (hc : Hid (∀ i, i < N + 1 → w.cell? ⟨g, off + i, none⟩ = some (.int .u64 (l.getD i 0 : Nat))))
 (hne : l.getD N 0 = moreN 0 (l.take N)) :
 Calls Tryz.prog 200 #[.slice (some ⟨g, off, none⟩) (N + 1) cap] w fun e w' => ∃ v', e = .returned (.tuple #[v', .bool true]) ∧ SL w' v' (l.take N) ∧ (∃ g c, v' = .slice (some ⟨g, 0, none⟩) N c ∧ w.heap.size ≤ g) ∧ Below w.heap.size w w' := by
 obtain ⟨i0, hi, hz0, hz1, hz2⟩ := info_parts infoU64
 have hS := lh (fun w1 (hb : Below w.heap.size w w1) => sl_take hN hcap hg hc.out hb (N + 1) (Nat.le_refl _))
 have hlast := hc.out N (by omega)
 have hx := hl.at N (by omega)
 have hm := moreN_lt 0 (l.take N)
 have hO := lh (fun w1 (hb : Below w.heap.size w w1) => of_any (.slice (some ⟨g, off, none⟩) N cap) (l.take N) w1 (fun x hx => hl x (List.mem_of_mem_take hx)) (by simp; omega) (sl_take hN hcap hg hc.out hb N (by omega)))
 rw [← hne] at hO hm
 replace hne := lh hne
 generalize l.getD N 0 = x at *
 have q1 : (N : Int) < (N : Int) + 1 := by omega
 have q2 : (N : Int) ≤ (cap : Int) := by omega
 have q3 : (0 : Int) ≤ (N : Int) := by omega
 have hd := (Below.refl w.heap.size w).drew
 have T : ((x : Int) == (x : Int)) = true := by simp
 have T1 : IntKind.u64.wrap (x : Int) = (x : Int) := by rw [IntKind.wrap_u64]; omega
 have T2 : ((x : Int) != IntKind.u64.wrap (x : Int)) = false := by rw [T1]; simp
 go_enter Tryz.func200, Tryz.ntmps200
 go_wp2_with fail
 go_region_held3 (fun w' => w'.cell? ⟨g, off + N, none⟩ = some (.int .u64 x) ∧ Below w.heap.size w w')
  (((try go_split_ands); refine ⟨?_, ?_⟩ <;> first | assumption | (exact cellK (by assumption) hb) | (exact Below.trans (by assumption) (hb.mono (Below.size (by assumption))))))
  (((try go_split_ands); first | (go_at_call 157; (with_reducible refine (hO.out _ (by assumption)).mono ?_); rintro e w8 ⟨rfl, hb⟩)))
 go_split_ands
 have hBW := ‹Below w.heap.size w _›
 go_wp2_with (at_make; refine wpList_make_full _ rfl _ _ 25 rfl w.heap.size 40 i0 (.int .u64 0) 1 Tryz.underlying25 hi hz0 hz1 .i64 .i64 _ _ N rfl rfl rfl rfl (by rw [hz2]; omega) (by unfold maxLen; omega) hBW.size ?_; intro w1 hown hgr)
 have hrow := row_of_owns hown rfl
 rw [show (madeCells (Value.int IntKind.u64 0).cells (N * 1)).toList = List.replicate N (Value.int .u64 0) by
  rw [Nat.mul_one]; exact toList_madeCells_one _ _] at hrow
 have hB1 : Below w.heap.size w w1 := hBW.grown hgr hBW.size (by simp)
 have hSl := hS.out w1 hB1
 rw [List.take_of_length_le (by omega), ← hN] at hSl
 obtain ⟨w2, hrun, hrow2, hb2⟩ := copyW l hrow hSl
 rw [hN] at hrun
 rw [hN, show Nat.min (N + 1) N = N from Nat.min_eq_right (by omega), Nat.sub_self, List.replicate_zero, List.append_nil] at hrow2
 rw [hrun]
 have hB2 : Below w.heap.size w w2 := hB1.trans (hb2.mono hBW.size)
 have hg2 := (Array.getElem?_eq_some_iff.1 hrow2).1
 have hR := lh (row_cell hrow2)
 clear hrun hrow hrow2 hown hgr hb2 hB1 hSl hS
 go_wp2_with fail
 go_ret2
 have hlk : (l.take N).length = N := by simp; omega
 refine ⟨_, rfl, .inr ⟨_, 0, N, by rw [hlk]; rfl, hg2, by omega, fun i hi => ?_⟩, ⟨_, _, rfl, hBW.size⟩, hB2⟩
 rw [Nat.zero_add, (hR.out i).1, List.getElem?_toArray, wv_at _ i hi]
theorem KL.drop {K : IntKind} {w : World} {A : Option Addr} {n cap : Nat} {l : List Nat} (h : KL K w (.slice A n cap) l) (t : Nat) (ht : t ≤ n) : KL K w (.slice (if cap = t then A else A.map (·.add (t * 1))) (n - t) (cap - t)) (l.drop t) := by
 obtain ⟨A', cap', hv, h⟩ := h
 simp only [Value.slice.injEq] at hv
 obtain ⟨rfl, rfl, rfl⟩ := hv
 refine ⟨_, _, by rw [List.length_drop], fun hl => ?_⟩
 rw [List.length_drop] at hl
 obtain ⟨g, off, rfl, hg, hc, hi⟩ := h (by omega)
 refine ⟨g, off + t, ?_, hg, by rw [List.length_drop]; omega, fun i h => ?_⟩
 ·rw [if_neg (by omega), Option.map_some, add_plain, Nat.mul_one]
 rw [List.length_drop] at h
 rw [Nat.add_assoc, hi (t + i) (by omega), List.getD_eq_getElem?_getD, List.getD_eq_getElem?_getD, List.getElem?_drop]
theorem ne_entry {w : World} {b g o c : Nat} {x : Int} {y : Int} {A : Option Addr} {m : Nat} {t : TypeId} (hk : w.heap[b]? = some (.cells #[.int .i64 x, .slice A m c] t (0, 0))) (h : w.cell? ⟨g, o, none⟩ = some (.int .u64 y)) : ¬ g = b := by
 rintro rfl
 rw [(row_cell hk o).1] at h
 match o, h with
 | 0, h => simp at h
 | 1, h => simp at h
 | o + 2, h => simp at h
theorem KL.setOff {K : IntKind} {w : World} {g o m c b i : Nat} {v : Value} {l : List Nat} (h : KL K w (.slice (some ⟨g, o, none⟩) m c) l) (hne : ¬ g = b) : KL K (w.setCell ⟨b, i, none⟩ v) (.slice (some ⟨g, o, none⟩) m c) l := by
 obtain ⟨A, cap, hv, h⟩ := h
 refine ⟨A, cap, hv, fun hl => ?_⟩
 obtain ⟨g', off, hA, hg, hc, hi⟩ := h hl
 simp only [Value.slice.injEq] at hv
 obtain ⟨rfl, rfl, rfl⟩ := hv
 simp only [Option.some.injEq, Addr.mk.injEq, and_true] at hA
 obtain ⟨rfl, rfl⟩ := hA
 refine ⟨g, o, rfl, by simpa using hg, hc, fun j hj => ?_⟩
 rw [← hi j hj]
 have hne2 : ¬ b = g := fun e => hne e.symm
 simp [go_sem, hne, hne2]
def atN (ws : List Nat) : Nat := ws.getD 0 0 % 1048576
def manyN (ws : List Nat) : Nat := ws.getD 0 0 / 1048576 % 65536
def tkB (gn : Nat) (ws : List Nat) : Bool := canB (atN ws) (manyN ws) && decide (firstW gn (atN ws) (manyN ws) = ws.getD 0 0) && decide (manyN ws + 2 ≤ ws.length) && decide (ws.getD (manyN ws + 1) 0 = moreN 0 (ws.take (manyN ws + 1)))
theorem tkB_f {gn : Nat} {ws : List Nat} (h : tkB gn ws = false) : canB (atN ws) (manyN ws) = false ∨ (canB (atN ws) (manyN ws) = true ∧ firstW gn (atN ws) (manyN ws) ≠ ws.getD 0 0) ∨
 (canB (atN ws) (manyN ws) = true ∧ firstW gn (atN ws) (manyN ws) = ws.getD 0 0 ∧ ws.length < manyN ws + 2) ∨
 (canB (atN ws) (manyN ws) = true ∧ firstW gn (atN ws) (manyN ws) = ws.getD 0 0 ∧ manyN ws + 2 ≤ ws.length ∧ ws.getD (manyN ws + 1) 0 ≠ moreN 0 (ws.take (manyN ws + 1))) := by
 unfold tkB at h
 cases h1 : canB (atN ws) (manyN ws) with
 | false => exact .inl rfl
 | true =>
   by_cases h2 : firstW gn (atN ws) (manyN ws) = ws.getD 0 0
   ·by_cases h3 : manyN ws + 2 ≤ ws.length
    ·refine .inr (.inr (.inr ⟨rfl, h2, h3, fun h4 => ?_⟩))
     rw [h1, decide_eq_true h2, decide_eq_true h3, decide_eq_true h4] at h
     exact absurd h (by decide)
    exact .inr (.inr (.inl ⟨rfl, h2, by omega⟩))
   exact .inr (.inl ⟨rfl, h2⟩)
theorem tkB_t {gn : Nat} {ws : List Nat} (h : tkB gn ws = true) : canB (atN ws) (manyN ws) = true ∧ firstW gn (atN ws) (manyN ws) = ws.getD 0 0 ∧ manyN ws + 2 ≤ ws.length ∧ ws.getD (manyN ws + 1) 0 = moreN 0 (ws.take (manyN ws + 1)) := by
 simp only [tkB, Bool.and_eq_true, decide_eq_true_eq, and_assoc] at h
 exact h
theorem get_at (x : Nat) (w : World) (h1 : x < 18446744073709551616) :
 Calls Tryz.prog 165 #[.int .u64 (x : Nat), .int .i64 0, .int .i64 20] w fun e w' => e = .returned (.int .u64 ((x % 1048576 : Nat) : Int)) ∧ w = w' := by
 refine (get_yes x 0 20 w (by omega) (by omega) (by omega) (by omega) (by omega) (by omega)).mono ?_
 rintro e w' ⟨rfl, rfl⟩
 refine ⟨?_, rfl⟩
 simp [getI, getN]
theorem get_many (x : Nat) (w : World) (h1 : x < 18446744073709551616) :
 Calls Tryz.prog 165 #[.int .u64 (x : Nat), .int .i64 20, .int .i64 16] w fun e w' => e = .returned (.int .u64 ((x / 1048576 % 65536 : Nat) : Int)) ∧ w = w' := by
 refine (get_yes x 20 16 w (by omega) (by omega) (by omega) (by omega) (by omega) (by omega)).mono ?_
 rintro e w' ⟨rfl, rfl⟩
 refine ⟨?_, rfl⟩
 simp [getI, getN]
theorem getD_take (l : List Nat) (k i : Nat) (h : i < k) : (l.take k).getD i 0 = l.getD i 0 := by
 rw [List.getD_eq_getElem?_getD, List.getD_eq_getElem?_getD, List.getElem?_take, if_pos h]
theorem take_A (gn : Nat) (v : Value) (ws : List Nat) (w : World) (hgn : gn < 18446744073709551616) (hv : KL .u64 w v ws) (hW : WL ws) (h0 : 0 < ws.length) (hlen : ws.length ≤ 800) (h : canB (atN ws) (manyN ws) = false) :
 Calls Tryz.prog 214 #[.int .u64 (gn : Nat), v] w fun e w' => e = .returned (.tuple #[.agg #[.int .i64 0, .slice none 0 0], .bool false]) ∧ Below w.heap.size w w' := by
 obtain ⟨n, hn⟩ : ∃ n, ws.length = n := ⟨_, rfl⟩
 have hx := hW.at 0 (by omega)
 have hG1 := lh (fun w => get_at (ws.getD 0 0) w hx)
 have hG2 := lh (fun w => get_many (ws.getD 0 0) w hx)
 have ha : atN ws < 1048576 := Nat.mod_lt _ (by decide)
 have hm : manyN ws < 65536 := Nat.mod_lt _ (by decide)
 have hCn := lh (fun w => can_any (atN ws) (manyN ws) w)
 have hFr := lh (fun w => first_any gn (atN ws) (manyN ws) w hgn ha hm)
 obtain ⟨A, cap, rfl, hC⟩ := hv.form hn
 obtain ⟨g, off, rfl, hcap, hg, hc0⟩ := hC w 0 (Below.refl _ _) (by omega)
 rw [Nat.add_zero] at hc0
 rw [h] at hCn
 clear h
 change Hid (∀ w, Calls Tryz.prog 165 #[.int .u64 ((ws.getD 0 0 : Nat) : Int), .int .i64 0, .int .i64 20] w fun e w' => e = .returned (.int .u64 ((atN ws : Nat) : Int)) ∧ w = w') at hG1
 change Hid (∀ w, Calls Tryz.prog 165 #[.int .u64 ((ws.getD 0 0 : Nat) : Int), .int .i64 20, .int .i64 16] w fun e w' => e = .returned (.int .u64 ((manyN ws : Nat) : Int)) ∧ w = w') at hG2
 generalize ws.getD 0 0 = x at *
 generalize hf : firstW gn (atN ws) (manyN ws) = f at *
 generalize atN ws = a at *
 generalize manyN ws = m at *
 have h2n : True := trivial
 have i0 : (0 : Int) < (n : Int) := by omega
 have i1 : 0 < n := by omega
 have kk := C2.new w (.int .i64 0) (.slice none 0 0) (136 : Nat)
 have ff := F2.new w (.int .i64 0) (.slice none 0 0) (136 : Nat)
 have hB0 : Below w.heap.size w (w.alloc (.cells #[.int .i64 0, .slice none 0 0] (136 : Nat))) := bZ _ _
 have hc1 := cellK hc0 hB0
 replace hn := lh hn
 replace hC := lh hC
 replace hv := lh hv
 replace hW := lh hW
 have kh : Hid ((w.alloc (.cells #[.int .i64 0, .slice none 0 0] (136 : Nat))).drew.heap[w.heap.size]? = _) := World.alloc_heap_new w _
 replace hf := lh hf
 go_enter Tryz.func214, Tryz.ntmps214
 go_wp2_with (first
  | (go_at_call 165; (with_reducible refine (hG1.out _).mono ?_); rintro e w1 ⟨rfl, rfl⟩)
  | (go_at_call 165; (with_reducible refine (hG2.out _).mono ?_); rintro e w1 ⟨rfl, rfl⟩))
 refine wp_region_held_drew (S := (fun w' => w'.cell? ⟨g, off, none⟩ = some (.int .u64 (x : Nat)) ∧ C2 w' w.heap.size (.int .i64 0) (.slice none 0 0) ∧ F2 w' w.heap.size ∧ Below w.heap.size w w')) (by kernel_rfl) ?_ (fun hHeld => ?_)
 ·(try dsimp only)
  (first | assumption | (exact ⟨hc1, kk.drew, ff.drew, hB0.drew⟩))
 refine takeV 0 ?_
 refine takeV 1 ?_
 refine oneL 2 rfl (by kernel_rfl) (fun K hK => ?_)
 go_simp
 (with_reducible refine (hCn.out _).mono ?_); rintro e w8 ⟨rfl, rfl⟩
 refine hK.out _ _ ?_ (fun hHeld2 => ?_)
 ·(try dsimp only)
  (first | assumption | (exact ⟨hc1, kk.drew, ff.drew, hB0.drew⟩))
 clear hK K hHeld
 have hHeld := hHeld2
 clear hHeld2
 try simp only [Act.put,sA,sB,sC]
 refine takeV 3 ?_
 refine takeV 4 ?_
 refine idleQ 5 ?_
 refine idleQ 6 ?_
 refine idleQ 7 ?_
 refine idleQ 8 ?_
 refine idleQ 9 ?_
 refine idleQ 10 ?_
 refine idleQ 11 ?_
 refine idleQ 12 ?_
 refine takeV 13 ?_
 refine takeV 14 ?_
 refine idleQ 15 ?_
 refine idleQ 16 ?_
 refine idleQ 17 ?_
 refine idleQ 18 ?_
 refine idleQ 19 ?_
 refine takeV 20 ?_
 refine wpAnyH_done (by kernel_rfl) ?_ _
 obtain ⟨_, k2, f2, b2⟩ := id hHeld
 obtain ⟨k20, k21⟩ := id k2
 obtain ⟨f20, f21⟩ := id f2
 go_wp2_with fail
 (try simp only [Exit.inBlock, Exit.then])
 refine bodyPost_ret (v := .tuple #[.agg #[.int .i64 0, .slice none 0 0], .bool false]) ?_ rfl ⟨rfl, b2⟩
 rw [results_cell_tmp rfl]
 go_simp
theorem take_B (gn : Nat) (v : Value) (ws : List Nat) (w : World) (hgn : gn < 18446744073709551616) (hv : KL .u64 w v ws) (hW : WL ws) (h0 : 0 < ws.length) (hlen : ws.length ≤ 800) (h : canB (atN ws) (manyN ws) = true) (h1 : firstW gn (atN ws) (manyN ws) ≠ ws.getD 0 0) :
 Calls Tryz.prog 214 #[.int .u64 (gn : Nat), v] w fun e w' => e = .returned (.tuple #[.agg #[.int .i64 0, .slice none 0 0], .bool false]) ∧ Below w.heap.size w w' := by
 obtain ⟨n, hn⟩ : ∃ n, ws.length = n := ⟨_, rfl⟩
 have hx := hW.at 0 (by omega)
 have hG1 := lh (fun w => get_at (ws.getD 0 0) w hx)
 have hG2 := lh (fun w => get_many (ws.getD 0 0) w hx)
 have ha : atN ws < 1048576 := Nat.mod_lt _ (by decide)
 have hm : manyN ws < 65536 := Nat.mod_lt _ (by decide)
 have hCn := lh (fun w => can_any (atN ws) (manyN ws) w)
 have hFr := lh (fun w => first_any gn (atN ws) (manyN ws) w hgn ha hm)
 obtain ⟨A, cap, rfl, hC⟩ := hv.form hn
 obtain ⟨g, off, rfl, hcap, hg, hc0⟩ := hC w 0 (Below.refl _ _) (by omega)
 rw [Nat.add_zero] at hc0
 rw [h] at hCn
 clear h
 change Hid (∀ w, Calls Tryz.prog 165 #[.int .u64 ((ws.getD 0 0 : Nat) : Int), .int .i64 0, .int .i64 20] w fun e w' => e = .returned (.int .u64 ((atN ws : Nat) : Int)) ∧ w = w') at hG1
 change Hid (∀ w, Calls Tryz.prog 165 #[.int .u64 ((ws.getD 0 0 : Nat) : Int), .int .i64 20, .int .i64 16] w fun e w' => e = .returned (.int .u64 ((manyN ws : Nat) : Int)) ∧ w = w') at hG2
 generalize ws.getD 0 0 = x at *
 generalize hf : firstW gn (atN ws) (manyN ws) = f at *
 generalize atN ws = a at *
 generalize manyN ws = m at *
 have h2n : True := trivial
 have i0 : (0 : Int) < (n : Int) := by omega
 have i1 : 0 < n := by omega
 have kk := C2.new w (.int .i64 0) (.slice none 0 0) (136 : Nat)
 have ff := F2.new w (.int .i64 0) (.slice none 0 0) (136 : Nat)
 have hB0 : Below w.heap.size w (w.alloc (.cells #[.int .i64 0, .slice none 0 0] (136 : Nat))) := bZ _ _
 have hc1 := cellK hc0 hB0
 replace hn := lh hn
 replace hC := lh hC
 replace hv := lh hv
 replace hW := lh hW
 have kh : Hid ((w.alloc (.cells #[.int .i64 0, .slice none 0 0] (136 : Nat))).drew.heap[w.heap.size]? = _) := World.alloc_heap_new w _
 replace hf := lh hf
 have T : ((f : Int) != (x : Int)) = true := by rw [bne_iff_ne]; omega
 clear h1
 go_enter Tryz.func214, Tryz.ntmps214
 go_wp2_with (first
  | (go_at_call 165; (with_reducible refine (hG1.out _).mono ?_); rintro e w1 ⟨rfl, rfl⟩)
  | (go_at_call 165; (with_reducible refine (hG2.out _).mono ?_); rintro e w1 ⟨rfl, rfl⟩))
 refine wp_region_held_drew (S := (fun w' => w'.cell? ⟨g, off, none⟩ = some (.int .u64 (x : Nat)) ∧ C2 w' w.heap.size (.int .i64 0) (.slice none 0 0) ∧ F2 w' w.heap.size ∧ Below w.heap.size w w')) (by kernel_rfl) ?_ (fun hHeld => ?_)
 ·(try dsimp only)
  (first | assumption | (exact ⟨hc1, kk.drew, ff.drew, hB0.drew⟩))
 refine takeV 0 ?_
 refine takeV 1 ?_
 refine oneL 2 rfl (by kernel_rfl) (fun K hK => ?_)
 go_simp
 (with_reducible refine (hCn.out _).mono ?_); rintro e w8 ⟨rfl, rfl⟩
 refine hK.out _ _ ?_ (fun hHeld2 => ?_)
 ·(try dsimp only)
  (first | assumption | (exact ⟨hc1, kk.drew, ff.drew, hB0.drew⟩))
 clear hK K hHeld
 have hHeld := hHeld2
 clear hHeld2
 try simp only [Act.put,sA,sB,sC]
 refine takeV 3 ?_
 refine takeV 4 ?_
 refine takeV 5 ?_
 refine takeV 6 ?_
 refine takeV 7 ?_
 refine takeV 9 ?_
 refine takeV 10 ?_
 refine takeV 11 ?_
 refine oneL 8 rfl (by kernel_rfl) (fun K hK => ?_)
 go_simp
 (with_reducible refine (hFr.out _).mono ?_); rintro e w8 ⟨rfl, rfl⟩
 refine hK.out _ _ ?_ (fun hHeld2 => ?_)
 ·(try dsimp only)
  (first | assumption | (exact ⟨hc1, kk.drew, ff.drew, hB0.drew⟩))
 clear hK K hHeld
 have hHeld := hHeld2
 clear hHeld2
 try simp only [Act.put,sA,sB,sC]
 refine takeV 12 ?_
 refine takeV 13 ?_
 refine takeV 14 ?_
 refine idleQ 15 ?_
 refine idleQ 16 ?_
 refine idleQ 17 ?_
 refine idleQ 18 ?_
 refine idleQ 19 ?_
 refine takeV 20 ?_
 refine wpAnyH_done (by kernel_rfl) ?_ _
 obtain ⟨_, k2, f2, b2⟩ := id hHeld
 obtain ⟨k20, k21⟩ := id k2
 obtain ⟨f20, f21⟩ := id f2
 go_wp2_with fail
 (try simp only [Exit.inBlock, Exit.then])
 refine bodyPost_ret (v := .tuple #[.agg #[.int .i64 0, .slice none 0 0], .bool false]) ?_ rfl ⟨rfl, b2⟩
 rw [results_cell_tmp rfl]
 go_simp
theorem take_C (gn : Nat) (v : Value) (ws : List Nat) (w : World) (hgn : gn < 18446744073709551616) (hv : KL .u64 w v ws) (hW : WL ws) (h0 : 0 < ws.length) (hlen : ws.length ≤ 800) (h : canB (atN ws) (manyN ws) = true) (h1 : firstW gn (atN ws) (manyN ws) = ws.getD 0 0) (h2 : ws.length < manyN ws + 2) :
 Calls Tryz.prog 214 #[.int .u64 (gn : Nat), v] w fun e w' => e = .returned (.tuple #[.agg #[.int .i64 0, .slice none 0 0], .bool false]) ∧ Below w.heap.size w w' := by
 obtain ⟨n, hn⟩ : ∃ n, ws.length = n := ⟨_, rfl⟩
 have hx := hW.at 0 (by omega)
 have hG1 := lh (fun w => get_at (ws.getD 0 0) w hx)
 have hG2 := lh (fun w => get_many (ws.getD 0 0) w hx)
 have ha : atN ws < 1048576 := Nat.mod_lt _ (by decide)
 have hm : manyN ws < 65536 := Nat.mod_lt _ (by decide)
 have hCn := lh (fun w => can_any (atN ws) (manyN ws) w)
 have hFr := lh (fun w => first_any gn (atN ws) (manyN ws) w hgn ha hm)
 obtain ⟨A, cap, rfl, hC⟩ := hv.form hn
 obtain ⟨g, off, rfl, hcap, hg, hc0⟩ := hC w 0 (Below.refl _ _) (by omega)
 rw [Nat.add_zero] at hc0
 rw [h] at hCn
 rw [hn] at h2
 rw [h1] at hFr
 clear h
 replace h1 := lh h1
 change Hid (∀ w, Calls Tryz.prog 165 #[.int .u64 ((ws.getD 0 0 : Nat) : Int), .int .i64 0, .int .i64 20] w fun e w' => e = .returned (.int .u64 ((atN ws : Nat) : Int)) ∧ w = w') at hG1
 change Hid (∀ w, Calls Tryz.prog 165 #[.int .u64 ((ws.getD 0 0 : Nat) : Int), .int .i64 20, .int .i64 16] w fun e w' => e = .returned (.int .u64 ((manyN ws : Nat) : Int)) ∧ w = w') at hG2
 generalize ws.getD 0 0 = x at *
 generalize atN ws = a at *
 generalize manyN ws = m at *
 have h2n : True := trivial
 have i0 : (0 : Int) < (n : Int) := by omega
 have i1 : 0 < n := by omega
 have kk := C2.new w (.int .i64 0) (.slice none 0 0) (136 : Nat)
 have ff := F2.new w (.int .i64 0) (.slice none 0 0) (136 : Nat)
 have hB0 : Below w.heap.size w (w.alloc (.cells #[.int .i64 0, .slice none 0 0] (136 : Nat))) := bZ _ _
 have hc1 := cellK hc0 hB0
 replace hn := lh hn
 replace hC := lh hC
 replace hv := lh hv
 replace hW := lh hW
 have kh : Hid ((w.alloc (.cells #[.int .i64 0, .slice none 0 0] (136 : Nat))).drew.heap[w.heap.size]? = _) := World.alloc_heap_new w _
 have T : ((x : Int) != (x : Int)) = false := by simp
 have T2 : (n : Int) < (m : Int) + 2 := by omega
 have T3 : IntKind.i64.wrap ((m : Int) + 2) = (m : Int) + 2 := by rw [IntKind.wrap_i64]; omega
 go_enter Tryz.func214, Tryz.ntmps214
 go_wp2_with (first
  | (go_at_call 165; (with_reducible refine (hG1.out _).mono ?_); rintro e w1 ⟨rfl, rfl⟩)
  | (go_at_call 165; (with_reducible refine (hG2.out _).mono ?_); rintro e w1 ⟨rfl, rfl⟩))
 refine wp_region_held_drew (S := (fun w' => w'.cell? ⟨g, off, none⟩ = some (.int .u64 (x : Nat)) ∧ C2 w' w.heap.size (.int .i64 0) (.slice none 0 0) ∧ F2 w' w.heap.size ∧ Below w.heap.size w w')) (by kernel_rfl) ?_ (fun hHeld => ?_)
 ·(try dsimp only)
  (first | assumption | (exact ⟨hc1, kk.drew, ff.drew, hB0.drew⟩))
 refine takeV 0 ?_
 refine takeV 1 ?_
 refine oneL 2 rfl (by kernel_rfl) (fun K hK => ?_)
 go_simp
 (with_reducible refine (hCn.out _).mono ?_); rintro e w8 ⟨rfl, rfl⟩
 refine hK.out _ _ ?_ (fun hHeld2 => ?_)
 ·(try dsimp only)
  (first | assumption | (exact ⟨hc1, kk.drew, ff.drew, hB0.drew⟩))
 clear hK K hHeld
 have hHeld := hHeld2
 clear hHeld2
 try simp only [Act.put,sA,sB,sC]
 refine takeV 3 ?_
 refine takeV 4 ?_
 refine takeV 5 ?_
 refine takeV 6 ?_
 refine takeV 7 ?_
 refine takeV 9 ?_
 refine takeV 10 ?_
 refine takeV 11 ?_
 refine oneL 8 rfl (by kernel_rfl) (fun K hK => ?_)
 go_simp
 (with_reducible refine (hFr.out _).mono ?_); rintro e w8 ⟨rfl, rfl⟩
 refine hK.out _ _ ?_ (fun hHeld2 => ?_)
 ·(try dsimp only)
  (first | assumption | (exact ⟨hc1, kk.drew, ff.drew, hB0.drew⟩))
 clear hK K hHeld
 have hHeld := hHeld2
 clear hHeld2
 try simp only [Act.put,sA,sB,sC]
 refine takeV 12 ?_
 refine takeV 13 ?_
 refine takeV 14 ?_
 refine takeV 15 ?_
 refine takeV 16 ?_
 refine takeV 17 ?_
 refine takeV 18 ?_
 refine takeV 19 ?_
 refine takeV 20 ?_
 refine wpAnyH_done (by kernel_rfl) ?_ _
 obtain ⟨_, k2, f2, b2⟩ := id hHeld
 obtain ⟨k20, k21⟩ := id k2
 obtain ⟨f20, f21⟩ := id f2
 go_wp2_with fail
 (try simp only [Exit.inBlock, Exit.then])
 refine bodyPost_ret (v := .tuple #[.agg #[.int .i64 0, .slice none 0 0], .bool false]) ?_ rfl ⟨rfl, b2⟩
 rw [results_cell_tmp rfl]
 go_simp
theorem take_D (gn : Nat) (v : Value) (ws : List Nat) (w : World) (hgn : gn < 18446744073709551616) (hv : KL .u64 w v ws) (hW : WL ws) (h0 : 0 < ws.length) (hlen : ws.length ≤ 800) (h : canB (atN ws) (manyN ws) = true) (h1 : firstW gn (atN ws) (manyN ws) = ws.getD 0 0) (h2 : manyN ws + 2 ≤ ws.length) (h3 : ws.getD (manyN ws + 1) 0 ≠ moreN 0 (ws.take (manyN ws + 1))) :
 Calls Tryz.prog 214 #[.int .u64 (gn : Nat), v] w fun e w' => e = .returned (.tuple #[.agg #[.int .i64 0, .slice none 0 0], .bool false]) ∧ Below w.heap.size w w' := by
 obtain ⟨n, hn⟩ : ∃ n, ws.length = n := ⟨_, rfl⟩
 have hx := hW.at 0 (by omega)
 have hG1 := lh (fun w => get_at (ws.getD 0 0) w hx)
 have hG2 := lh (fun w => get_many (ws.getD 0 0) w hx)
 have ha : atN ws < 1048576 := Nat.mod_lt _ (by decide)
 have hm : manyN ws < 65536 := Nat.mod_lt _ (by decide)
 have hCn := lh (fun w => can_any (atN ws) (manyN ws) w)
 have hFr := lh (fun w => first_any gn (atN ws) (manyN ws) w hgn ha hm)
 obtain ⟨A, cap, rfl, hC⟩ := hv.form hn
 obtain ⟨g, off, rfl, hcap, hg, hc0⟩ := hC w 0 (Below.refl _ _) (by omega)
 rw [Nat.add_zero] at hc0
 have h3' := h3
 rw [h] at hCn
 rw [h1] at hFr
 rw [hn] at h2
 have hm1 : 1 ≤ manyN ws := by have := canB_iff.1 h; omega
 clear h
 replace h1 := lh h1
 have hO := lh (fun w1 (hb : Below w.heap.size w w1) => open_no (ws.take (manyN ws + 2)) (manyN ws + 1) g off cap w1 (fun x hx => hW x (List.mem_of_mem_take hx)) (by rw [List.length_take]; omega) (by rw [List.length_take]; omega) (by omega) (Nat.lt_of_lt_of_le hg hb.size)
  (fun i hi => by obtain ⟨g', off', e, _, _, q⟩ := hC w1 i hb (by omega); cases e; rw [getD_take ws _ i (by omega)]; exact q) (by rw [getD_take ws _ _ (by omega), List.take_take, Nat.min_eq_left (by omega)]; exact h3))
 rw [show manyN ws + 1 + 1 = manyN ws + 2 from rfl] at hO
 change Hid (∀ w, Calls Tryz.prog 165 #[.int .u64 ((ws.getD 0 0 : Nat) : Int), .int .i64 0, .int .i64 20] w fun e w' => e = .returned (.int .u64 ((atN ws : Nat) : Int)) ∧ w = w') at hG1
 change Hid (∀ w, Calls Tryz.prog 165 #[.int .u64 ((ws.getD 0 0 : Nat) : Int), .int .i64 20, .int .i64 16] w fun e w' => e = .returned (.int .u64 ((manyN ws : Nat) : Int)) ∧ w = w') at hG2
 generalize ws.getD 0 0 = x at *
 generalize atN ws = a at *
 generalize manyN ws = m at *
 have h2n : True := trivial
 have i0 : (0 : Int) < (n : Int) := by omega
 have i1 : 0 < n := by omega
 have kk := C2.new w (.int .i64 0) (.slice none 0 0) (136 : Nat)
 have ff := F2.new w (.int .i64 0) (.slice none 0 0) (136 : Nat)
 have hB0 : Below w.heap.size w (w.alloc (.cells #[.int .i64 0, .slice none 0 0] (136 : Nat))) := bZ _ _
 have hc1 := cellK hc0 hB0
 replace hn := lh hn
 replace hC := lh hC
 replace hv := lh hv
 replace hW := lh hW
 have kh : Hid ((w.alloc (.cells #[.int .i64 0, .slice none 0 0] (136 : Nat))).drew.heap[w.heap.size]? = _) := World.alloc_heap_new w _
 have T : ((x : Int) != (x : Int)) = false := by simp
 have T2 : ¬ ((n : Int) < (m : Int) + 2) := by omega
 have T4 : (m : Int) + 2 ≤ (n : Int) := by omega
 have T5 : (m : Int) + 2 ≤ (cap : Int) := by omega
 have T6 : (0 : Int) ≤ (m : Int) + 2 := by omega
 have T7 : ((m : Int) + 2).toNat = m + 2 := by omega
 have T3 : IntKind.i64.wrap ((m : Int) + 2) = (m : Int) + 2 := by rw [IntKind.wrap_i64]; omega
 go_enter Tryz.func214, Tryz.ntmps214
 go_wp2_with (first
  | (go_at_call 165; (with_reducible refine (hG1.out _).mono ?_); rintro e w1 ⟨rfl, rfl⟩)
  | (go_at_call 165; (with_reducible refine (hG2.out _).mono ?_); rintro e w1 ⟨rfl, rfl⟩))
 refine wp_region_held_drew (S := (fun w' => w'.cell? ⟨g, off, none⟩ = some (.int .u64 (x : Nat)) ∧ C2 w' w.heap.size (.int .i64 0) (.slice none 0 0) ∧ F2 w' w.heap.size ∧ Below w.heap.size w w')) (by kernel_rfl) ?_ (fun hHeld => ?_)
 ·(try dsimp only)
  (first | assumption | (exact ⟨hc1, kk.drew, ff.drew, hB0.drew⟩))
 refine takeV 0 ?_
 refine takeV 1 ?_
 refine oneL 2 rfl (by kernel_rfl) (fun K hK => ?_)
 go_simp
 (with_reducible refine (hCn.out _).mono ?_); rintro e w8 ⟨rfl, rfl⟩
 refine hK.out _ _ ?_ (fun hHeld2 => ?_)
 ·(try dsimp only)
  (first | assumption | (exact ⟨hc1, kk.drew, ff.drew, hB0.drew⟩))
 clear hK K hHeld
 have hHeld := hHeld2
 clear hHeld2
 try simp only [Act.put,sA,sB,sC]
 refine takeV 3 ?_
 refine takeV 4 ?_
 refine takeV 5 ?_
 refine takeV 6 ?_
 refine takeV 7 ?_
 refine takeV 9 ?_
 refine takeV 10 ?_
 refine takeV 11 ?_
 refine oneL 8 rfl (by kernel_rfl) (fun K hK => ?_)
 go_simp
 (with_reducible refine (hFr.out _).mono ?_); rintro e w8 ⟨rfl, rfl⟩
 refine hK.out _ _ ?_ (fun hHeld2 => ?_)
 ·(try dsimp only)
  (first | assumption | (exact ⟨hc1, kk.drew, ff.drew, hB0.drew⟩))
 clear hK K hHeld
 have hHeld := hHeld2
 clear hHeld2
 try simp only [Act.put,sA,sB,sC]
 refine takeV 12 ?_
 refine takeV 13 ?_
 refine takeV 14 ?_
 refine takeV 15 ?_
 refine takeV 16 ?_
 refine takeV 17 ?_
 refine takeV 18 ?_
 refine takeV 19 ?_
 refine takeV 20 ?_
 refine wpAnyH_done (by kernel_rfl) ?_ _
 obtain ⟨_, k2, f2, b2⟩ := id hHeld
 obtain ⟨k20, k21⟩ := id k2
 obtain ⟨f20, f21⟩ := id f2
 go_wp2_with (go_at_call 200; (with_reducible refine (hO.out _ b2).mono ?_); rintro e w3 ⟨rfl, hb3⟩
              replace b2 := b2.trans (hb3.mono b2.size)
              replace f2 := f2.keep (Nat.lt_of_lt_of_le k2.lt (Nat.le_refl _)) hb3
              replace k2 := k2.keep hb3
              obtain ⟨k20, k21⟩ := id k2
              obtain ⟨f20, f21⟩ := id f2)
 (try simp only [Exit.inBlock, Exit.then])
 obtain ⟨w7, hw7, hC7, hb7⟩ := st2_ex k2 (.int .i64 0) (.slice none 0 0)
 rw [← hw7]
 refine bodyPost_ret (v := .tuple #[.agg #[.int .i64 0, .slice none 0 0], .bool false]) ?_ rfl ⟨rfl, b2.trans hb7⟩
 rw [results_cell_tmp rfl]
 obtain ⟨t0, t1⟩ := hC7
 clear hw7 hb7 k2 f2 k20 k21 f20 f21
 go_simp
theorem take_E (gn : Nat) (v : Value) (ws : List Nat) (w : World) (hgn : gn < 18446744073709551616) (hv : KL .u64 w v ws) (hW : WL ws) (h0 : 0 < ws.length) (hlen : ws.length ≤ 800) (h : canB (atN ws) (manyN ws) = true) (h1 : firstW gn (atN ws) (manyN ws) = ws.getD 0 0) (h2 : manyN ws + 2 ≤ ws.length) (h3 : ws.getD (manyN ws + 1) 0 = moreN 0 (ws.take (manyN ws + 1))) :
 Calls Tryz.prog 214 #[.int .u64 (gn : Nat), v] w fun e w' => ∃ v2, e = .returned (.tuple #[.agg #[.int .i64 (atN ws : Nat), v2], .bool true]) ∧ KL .u64 w' v2 ((ws.drop 1).take (manyN ws)) ∧ (∃ g o c, v2 = .slice (some ⟨g, o, none⟩) (manyN ws) c ∧ w.heap.size ≤ g) ∧ Below w.heap.size w w' := by
 obtain ⟨n, hn⟩ : ∃ n, ws.length = n := ⟨_, rfl⟩
 have hx := hW.at 0 (by omega)
 have hG1 := lh (fun w => get_at (ws.getD 0 0) w hx)
 have hG2 := lh (fun w => get_many (ws.getD 0 0) w hx)
 have ha : atN ws < 1048576 := Nat.mod_lt _ (by decide)
 have hm : manyN ws < 65536 := Nat.mod_lt _ (by decide)
 have hCn := lh (fun w => can_any (atN ws) (manyN ws) w)
 have hFr := lh (fun w => first_any gn (atN ws) (manyN ws) w hgn ha hm)
 obtain ⟨A, cap, rfl, hC⟩ := hv.form hn
 obtain ⟨g, off, rfl, hcap, hg, hc0⟩ := hC w 0 (Below.refl _ _) (by omega)
 rw [Nat.add_zero] at hc0
 have h3' := h3
 rw [h] at hCn
 rw [h1] at hFr
 rw [hn] at h2
 have hm1 : 1 ≤ manyN ws := by have := canB_iff.1 h; omega
 clear h
 replace h1 := lh h1
 have hO := lh (fun w1 (hb : Below w.heap.size w w1) => open_yes (ws.take (manyN ws + 2)) (manyN ws + 1) g off cap w1 (fun x hx => hW x (List.mem_of_mem_take hx)) (by rw [List.length_take]; omega) (by rw [List.length_take]; omega) (by omega) (Nat.lt_of_lt_of_le hg hb.size)
  (fun i hi => by obtain ⟨g', off', e, _, _, q⟩ := hC w1 i hb (by omega); cases e; rw [getD_take ws _ i (by omega)]; exact q) (by rw [getD_take ws _ _ (by omega), List.take_take, Nat.min_eq_left (by omega)]; exact h3))
 rw [show manyN ws + 1 + 1 = manyN ws + 2 from rfl] at hO
 have hX : Hid (∀ w v, KL .u64 w v (((ws.take (manyN ws + 2)).take (manyN ws + 1)).drop 1) → KL .u64 w v ((ws.drop 1).take (manyN ws))) := fun w v h => by
  rw [List.take_take, Nat.min_eq_left (by omega), List.drop_take, Nat.add_sub_cancel] at h
  exact h
 have hL2 : Hid (((ws.take (manyN ws + 2)).take (manyN ws + 1)).length = manyN ws + 1) := by
  show _ = _
  rw [List.length_take, List.length_take]
  omega
 change Hid (∀ w, Calls Tryz.prog 165 #[.int .u64 ((ws.getD 0 0 : Nat) : Int), .int .i64 0, .int .i64 20] w fun e w' => e = .returned (.int .u64 ((atN ws : Nat) : Int)) ∧ w = w') at hG1
 change Hid (∀ w, Calls Tryz.prog 165 #[.int .u64 ((ws.getD 0 0 : Nat) : Int), .int .i64 20, .int .i64 16] w fun e w' => e = .returned (.int .u64 ((manyN ws : Nat) : Int)) ∧ w = w') at hG2
 generalize ws.getD 0 0 = x at *
 generalize atN ws = a at *
 generalize manyN ws = m at *
 have h2n : True := trivial
 have i0 : (0 : Int) < (n : Int) := by omega
 have i1 : 0 < n := by omega
 have kk := C2.new w (.int .i64 0) (.slice none 0 0) (136 : Nat)
 have ff := F2.new w (.int .i64 0) (.slice none 0 0) (136 : Nat)
 have hB0 : Below w.heap.size w (w.alloc (.cells #[.int .i64 0, .slice none 0 0] (136 : Nat))) := bZ _ _
 have hc1 := cellK hc0 hB0
 replace hn := lh hn
 replace hC := lh hC
 replace hv := lh hv
 generalize (ws.drop 1).take m = rs at *
 generalize (ws.take (m + 2)).take (m + 1) = qs at *
 replace hW := lh hW
 have kh : Hid ((w.alloc (.cells #[.int .i64 0, .slice none 0 0] (136 : Nat))).drew.heap[w.heap.size]? = _) := World.alloc_heap_new w _
 have T : ((x : Int) != (x : Int)) = false := by simp
 have T2 : ¬ ((n : Int) < (m : Int) + 2) := by omega
 have T4 : (m : Int) + 2 ≤ (n : Int) := by omega
 have T5 : (m : Int) + 2 ≤ (cap : Int) := by omega
 have T6 : (0 : Int) ≤ (m : Int) + 2 := by omega
 have T7 : ((m : Int) + 2).toNat = m + 2 := by omega
 have T3 : IntKind.i64.wrap ((m : Int) + 2) = (m : Int) + 2 := by rw [IntKind.wrap_i64]; omega
 go_enter Tryz.func214, Tryz.ntmps214
 go_wp2_with (first
  | (go_at_call 165; (with_reducible refine (hG1.out _).mono ?_); rintro e w1 ⟨rfl, rfl⟩)
  | (go_at_call 165; (with_reducible refine (hG2.out _).mono ?_); rintro e w1 ⟨rfl, rfl⟩))
 refine wp_region_held_drew (S := (fun w' => w'.cell? ⟨g, off, none⟩ = some (.int .u64 (x : Nat)) ∧ C2 w' w.heap.size (.int .i64 0) (.slice none 0 0) ∧ F2 w' w.heap.size ∧ Below w.heap.size w w')) (by kernel_rfl) ?_ (fun hHeld => ?_)
 ·(try dsimp only)
  (first | assumption | (exact ⟨hc1, kk.drew, ff.drew, hB0.drew⟩))
 refine takeV 0 ?_
 refine takeV 1 ?_
 refine oneL 2 rfl (by kernel_rfl) (fun K hK => ?_)
 go_simp
 (with_reducible refine (hCn.out _).mono ?_); rintro e w8 ⟨rfl, rfl⟩
 refine hK.out _ _ ?_ (fun hHeld2 => ?_)
 ·(try dsimp only)
  (first | assumption | (exact ⟨hc1, kk.drew, ff.drew, hB0.drew⟩))
 clear hK K hHeld
 have hHeld := hHeld2
 clear hHeld2
 try simp only [Act.put,sA,sB,sC]
 refine takeV 3 ?_
 refine takeV 4 ?_
 refine takeV 5 ?_
 refine takeV 6 ?_
 refine takeV 7 ?_
 refine takeV 9 ?_
 refine takeV 10 ?_
 refine takeV 11 ?_
 refine oneL 8 rfl (by kernel_rfl) (fun K hK => ?_)
 go_simp
 (with_reducible refine (hFr.out _).mono ?_); rintro e w8 ⟨rfl, rfl⟩
 refine hK.out _ _ ?_ (fun hHeld2 => ?_)
 ·(try dsimp only)
  (first | assumption | (exact ⟨hc1, kk.drew, ff.drew, hB0.drew⟩))
 clear hK K hHeld
 have hHeld := hHeld2
 clear hHeld2
 try simp only [Act.put,sA,sB,sC]
 refine takeV 12 ?_
 refine takeV 13 ?_
 refine takeV 14 ?_
 refine takeV 15 ?_
 refine takeV 16 ?_
 refine takeV 17 ?_
 refine takeV 18 ?_
 refine takeV 19 ?_
 refine takeV 20 ?_
 refine wpAnyH_done (by kernel_rfl) ?_ _
 obtain ⟨_, k2, f2, b2⟩ := id hHeld
 obtain ⟨k20, k21⟩ := id k2
 obtain ⟨f20, f21⟩ := id f2
 go_wp2_with (go_at_call 200; (with_reducible refine (hO.out _ b2).mono ?_); rintro e w3 ⟨v3, rfl, hS3, ⟨g5, c5, hv5, hg5⟩, hb3⟩
              have hs5 : w.heap.size ≤ g5 := Nat.le_trans b2.size hg5
              clear hg5
              replace b2 := b2.trans (hb3.mono b2.size)
              replace f2 := f2.keep (Nat.lt_of_lt_of_le k2.lt (Nat.le_refl _)) hb3
              replace k2 := k2.keep hb3
              obtain ⟨k20, k21⟩ := id k2
              obtain ⟨f20, f21⟩ := id f2
              subst hv5
              obtain ⟨A3, c5, hv6, hA3⟩ := hS3.kl.form hL2.out
              simp only [Value.slice.injEq] at hv6
              obtain ⟨rfl, _, rfl⟩ := hv6
              obtain ⟨g3, o3, hv7, hc5, _, hq3⟩ := hA3 w3 0 (Below.refl _ _) (by omega)
              simp only [Option.some.injEq, Addr.mk.injEq, and_true] at hv7
              obtain ⟨rfl, rfl⟩ := hv7
              have hne3 := ne_entry ((hb3.block _ (by simp [go_sem])).trans kh.out) hq3
              clear hq3
              have hK3 := lh (hS3.kl.drop 1 (by omega))
              rw [if_neg (by omega)] at hK3
              rw [Option.map_some, add_plain, Nat.add_sub_cancel, Nat.one_mul] at hK3
              clear hS3 hA3
              have j1 : (1 : Int) ≤ ((m + 1 : Nat) : Int) := by omega
              have j2 : ¬ c5 = 1 := by omega)
 (try simp only [Exit.inBlock, Exit.then])
 obtain ⟨w7, hw7, hC7, hb7⟩ := st2_ex k2 (.int .i64 (a : Nat)) (.slice (some ⟨g5, 0 + 1, none⟩) m (c5 - 1))
 rw [← hw7]
 refine bodyPost_ret (v := .tuple #[.agg #[.int .i64 (a : Nat), .slice (some ⟨g5, 0 + 1, none⟩) m (c5 - 1)], .bool true]) ?_ rfl ⟨_, rfl, hX.out _ _ (by rw [hw7]; exact (hK3.out.setOff hne3).setOff hne3), ⟨_, _, _, rfl, hs5⟩, b2.trans hb7⟩
 rw [results_cell_tmp rfl]
 obtain ⟨t0, t1⟩ := hC7
 clear hw7 hb7 k2 f2 k20 k21 f20 f21
 go_simp
end Go.Proofs.YtkkbngcgphlikaaGreatDoor
end
