/-
  The laws of package super: SuperBack (walk).
-/
import Derived.Test.YtjmilngndoiceaaSuper7
set_option linter.unusedVariables false
set_option linter.unusedSimpArgs false
namespace Go.Proofs.Ytjmilngndoiceaa
open Go.RowKit

theorem C2.keep' {W w1 : World} {b B : Nat} {x y : Value} (h : C2 W b x y) (hb : Below B W w1) (hl : b < B) : C2 w1 b x y :=
  ⟨by rw [hb.cell (p := ⟨b, 0, none⟩) hl]; exact h.1, by rw [hb.cell (p := ⟨b, 1, none⟩) hl]; exact h.2⟩
theorem own_below {w w1 : World} {base e n : Nat} {v : Value} {xs : List Value} (h : w.ownsRow base e 1 v n xs) (hb : Below w.heap.size w w1) : w1.ownsRow base e 1 v n xs := owns_keep h hb
theorem own_cap {w : World} {base e g n cap : Nat} {xs : List Value} (h : w.ownsRow base e 1 (.slice (some ⟨g, 0, none⟩) n cap) n xs) : n ≤ cap ∧ cap ≤ maxLen := by
  rcases h.2 with ⟨hv, _⟩ | ⟨g', cap', cur, hv, hbg, hg, h1, h2, h3, h4⟩
  · simp at hv
  · simp only [Value.slice.injEq, Option.some.injEq, Addr.mk.injEq, and_true, true_and] at hv
    obtain ⟨rfl, rfl⟩ := hv
    exact ⟨h1, h2⟩
theorem SL.take {w : World} {g o n c m : Nat} {l : List Nat} (h : SL w (.slice (some ⟨g, o, none⟩) n c) l) (hm : m ≤ l.length) : SL w (.slice (some ⟨g, o, none⟩) m c) (l.take m) := by
  rcases h with ⟨rfl, sp, cp, hv⟩ | ⟨g', o', c', hv, hg, hcap, hc⟩
  · simp only [Value.slice.injEq] at hv
    obtain ⟨_, rfl, _⟩ := hv
    have : m = 0 := by simpa using hm
    subst this
    exact .inl ⟨rfl, _, _, rfl⟩
  · simp only [Value.slice.injEq, Option.some.injEq, Addr.mk.injEq, and_true] at hv
    obtain ⟨⟨rfl, rfl⟩, rfl, rfl⟩ := hv
    refine .inr ⟨g, o, c, by rw [List.length_take, Nat.min_eq_left hm], hg, by rw [List.length_take]; omega, fun i hi => ?_⟩
    rw [List.length_take] at hi
    rw [hc i (by omega), List.getD_eq_getElem?_getD, List.getD_eq_getElem?_getD, List.getElem?_take, if_pos (by omega)]
theorem WL1 (x : Nat) (h : x < 18446744073709551616) : WL [x] := fun y hy => by simp at hy; omega
theorem WL.take {l : List Nat} (h : WL l) (m : Nat) : WL (l.take m) := fun x hx => h x (List.mem_of_mem_take hx)
theorem C2.block {W w1 : World} {b : Nat} {x y : Value} (h : C2 W b x y) (hb : w1.heap[b]? = W.heap[b]?) : C2 w1 b x y :=
  ⟨by rw [World.cell?_of_block (w := W) (a := ⟨b, 0, none⟩) hb]; exact h.1, by rw [World.cell?_of_block (w := W) (a := ⟨b, 1, none⟩) hb]; exact h.2⟩
set_option maxRecDepth 10000 in
set_option maxHeartbeats 4000000 in
theorem superBack_in (a b c : Int) (W L G K at' r v : Nat) (w : World) (n1 : smW a b c = W) (n2 : smL a = L) (n3 : gOk W L = true) (n4 : gN W L = (G : Int)) (hK : W = 8 + K) (hr : r = at' % K) (hat : at' < 65536) (hv : v < 18446744073709551616)
    (h1 : 0 ≤ a) (h2 : a ≤ 255) (h3 : 0 ≤ b) (h4 : b ≤ 255) (h5 : 0 ≤ c) (h6 : c ≤ 255) :
    Calls Try.prog 5 #[.int .u8 a, .int .u8 b, .int .u8 c, .int .u16 at', .int .u64 v] w fun e w' => e = .returned (.bool true) ∧ Below w.heap.size w w' := by
  have hA := Lib.hid awake06
  have hM1 := Lib.hid (fun w => small_any a b c w h1 h2 h3 h4 h5 h6)
  rw [n1, n2] at hM1
  obtain ⟨o1, o2, o3, o4⟩ := gOk_t n3
  obtain ⟨g1', g2', _, _⟩ := gN_bd n3
  rw [n4] at g1' g2'
  have hE1 := Lib.hid (fun w => senc_t W L G w n3 n4)
  have hKp : 0 < K := by omega
  have hrK : r < K := by rw [hr]; exact Nat.mod_lt _ hKp
  have hWL : WL (headW W L G) := headW_WL (by omega) (by omega) (by omega)
  have s1 : (W : Int) - 8 = (K : Int) := by omega
  replace n3 := Lib.hid n3
  replace n4 := Lib.hid n4
  replace hK := Lib.hid hK
  replace hr := Lib.hid hr
  replace s1 := Lib.hid s1
  clear n1 n2 h1 h2 h3 h4 h5 h6
  go_enter Try.func5, Try.ntmps5
  go_wp2_with fail
  refine (hA.out _).mono ?_
  rintro e w1 ⟨rfl, hB1⟩
  go_wp2_with fail
  refine (hM1.out _).mono ?_
  rintro e w2 ⟨rfl, hb2⟩
  have hB2 := hB1.trans (hb2.mono hB1.size)
  have p2 := C2.new w2 (.int .i64 W) (.int .i64 L) 23
  have hB2' : Below w.heap.size w (w2.alloc (.cells #[.int .i64 W, .int .i64 L] 23)) := hB2.alloc hB2.size _
  clear hb2 hB2 hB1
  obtain ⟨p0, p1⟩ := id p2
  go_wp2_with fail
  refine (hE1.out _).mono ?_
  rintro e w4 ⟨ge, rfl, hge, hR, hb4⟩
  rw [show headL W L G ++ [moreN 0 (headL W L G)] = headW W L G from rfl] at hR
  have hB4 := hB2'.trans (hb4.mono hB2'.size)
  have p4 := p2.keep hb4
  have hge1 : w2.heap.size + 1 ≤ ge := by simpa using hge
  have hO := hR.own (by rw [headW_len]; omega)
  rw [headW_len] at hO
  obtain ⟨gx, cx, w5, hrun, hO5, hB5, _, hor⟩ := appz_own (k := K) hO (headW_len W L G) (by have := hK.out; omega) (Nat.le_of_lt hR.lt)
  have hB5' : Below w4.heap.size w4 w5 := hor.resolve_left (by omega)
  have hB5W := hB4.trans (hB5'.mono hB4.size)
  have p5 := p4.keep hB5'
  have hwl := hB2'.size
  have hgew : w.heap.size ≤ ge := by simp at hwl; omega
  rw [← s1.out, ← hK.out] at hrun
  rw [← hK.out] at hO5
  clear hO hge hR hb4 hB2' hor hB5 hB5' hB4 p0 p1 p2
  obtain ⟨p0, p1⟩ := id p4
  obtain ⟨q0, q1⟩ := id p5
  have hmod : (at' : Int) % ((W : Int) - 8) = (r : Int) := by rw [s1.out, hr.out]; omega
  have hrw : r < 65536 := by have := hK.out; omega
  have hb8 : (8 : Int) + (r : Int) < (W : Int) := by have := hK.out; omega
  have htn : ((8 : Int) + (r : Int)).toNat = 8 + r := by omega
  have hxl : (headW W L G ++ List.replicate K 0).length = W := by rw [List.length_append, headW_len, List.length_replicate]; exact hK.out.symm
  obtain ⟨c8, f8⟩ := own_cell hO5 hxl (8 + r) (by omega)
  have hO6 := own_set (i := 8 + r) (x := v) hO5
  have hgx := own_ge hO5 gx rfl
  have hB6 : Below w.heap.size w (w5.setCell ⟨gx, 8 + r, none⟩ (.int .u64 v)) := hB5W.setCell (by simp; omega) _
  have p6 := p5.keep' (w1 := w5.setCell ⟨gx, 8 + r, none⟩ (.int .u64 v)) (B := ge) ((Below.refl _ _).setCell (by simp; exact hgx) _) (by omega)
  have hx6 : (headW W L G ++ List.replicate K 0).set (8 + r) v = headW W L G ++ (List.replicate K 0).set r v := by
    rw [List.set_append_right _ _ (by rw [headW_len]; omega), headW_len]
    congr 2
    omega
  rw [hx6] at hO6
  have hzl : ((List.replicate K 0).set r v).length = K := by simp
  have hzw : WL ((List.replicate K 0).set r v) := fun x hx => by
    rcases List.mem_or_eq_of_mem_set hx with h | h
    · exact zeros_WL K x h
    · omega
  generalize (List.replicate K 0).set r v = zs at *
  have hl6 : (headW W L G ++ zs).length = W := by rw [List.length_append, headW_len, hzl]; exact hK.out.symm
  have hD := Lib.hid (dec_any _ _ _ (hWL.app hzw) (SL.of_owns' hO6 hl6))
  rw [sOk_pad zs n3.out n4.out (by rw [hzl]; exact hK.out.symm), headW_3, hl6, show decR W L true = .tuple #[.agg #[.int .i64 W, .int .i64 L], .int .i64 0] from rfl] at hD
  clear hx6 hxl hO5
  replace hzl := Lib.hid hzl
  replace hl6 := Lib.hid hl6
  go_wp2_with (at_builtin; refine Lib.wpList_append_run _ rfl _ _ _ _ rfl _ _ rfl rfl _ _ hrun ?_)
  refine hD.out.mono ?_
  rintro e w7 ⟨rfl, hb7⟩
  have hB7 := hB6.trans (hb7.mono hB6.size)
  have p7 := (p6.keep hb7).alloc (.cells #[.int .i64 W, .int .i64 L] 23)
  have r7 := C2.new w7 (.int .i64 W) (.int .i64 L) 23
  have hO7 := own_below hO6 hb7
  have hB8 : Below w.heap.size w (w7.alloc (.cells #[.int .i64 W, .int .i64 L] 23)) := hB7.alloc hB7.size _
  have hlt7 : gx < w7.heap.size := (SL.of_owns' hO7 hl6.out).lt (by rw [hl6.out]; omega)
  have hO8 := own_below hO7 ((Below.refl w7.heap.size w7).alloc (Nat.le_refl _) (.cells #[.int .i64 W, .int .i64 L] 23))
  obtain ⟨hcx, hcm⟩ := own_cap hO8
  have hcx1 : (W : Int) - 1 ≤ (cx : Int) := by omega
  have hcx2 : (0 : Int) ≤ (W : Int) - 1 := by omega
  have hwt : ((W : Int) - 1).toNat = W - 1 := by omega
  clear hB6 hb7 p6 p5 p4 c8 f8 hB5W hO6 hD hrun q0 q1 p0 p1 hmod htn hb8 hB7 hO7
  obtain ⟨p0, p1⟩ := id p7
  obtain ⟨q0, q1⟩ := id r7
  have hS8 := SL.of_owns' hO8 hl6.out
  have hD2 := Lib.hid (dec_any _ _ _ ((hWL.app hzw).take (W - 1)) (hS8.take (m := W - 1) (by rw [hl6.out]; omega)))
  rw [sOk_not (l := (headW W L G ++ zs).take (W - 1)) (W := W) (L := L) (G := G) (by rw [List.take_take, Nat.min_eq_left (by omega)]; exact List.take_left' (headW_len W L G)) (by rw [List.length_take, hl6.out]; omega)] at hD2
  go_wp2_with fail
  refine hD2.out.mono ?_
  rintro e w9 ⟨rfl, hb9⟩
  unfold decR
  have hB9 := hB8.trans (hb9.mono hB8.size)
  have p9 := (p7.keep hb9).alloc (.cells #[.int .i64 0, .int .i64 0] 23)
  have r9 := ((r7.keep hb9).alloc (.cells #[.int .i64 0, .int .i64 0] 23))
  have hO9 := own_below (own_below hO8 hb9) ((Below.refl w9.heap.size w9).alloc (Nat.le_refl _) (.cells #[.int .i64 0, .int .i64 0] 23))
  have hB10 : Below w.heap.size w (w9.alloc (.cells #[.int .i64 0, .int .i64 0] 23)) := hB9.alloc hB9.size _
  have hB11 := hB10.alloc hB10.size (.cells #[.int .u64 0] 34)
  have p11 := p9.alloc (.cells #[.int .u64 0] 34)
  have r11 := r9.alloc (.cells #[.int .u64 0] 34)
  have hO11 := own_below hO9 ((Below.refl _ (w9.alloc (.cells #[.int .i64 0, .int .i64 0] 23))).alloc (Nat.le_refl _) (.cells #[.int .u64 0] 34))
  obtain ⟨vx, w12, hrun2, hS12, hb12, hk12⟩ := appe_own (m := 0) (gb := w9.heap.size + 1) hO11 hl6.out (by simp [go_sem]) (by have := hB11.size; have := own_ge hO11 gx rfl; have := (hS8.lt (by rw [hl6.out]; omega)); have := hb9.size; simp at *; omega) (by omega) (by omega)
  have hgx2 : w2.heap.size < gx := by omega
  have p12 := p11.block (hk12 _ p11.lt (by omega))
  have r12 := r11.block (hk12 _ r11.lt (by omega))
  have hB12 := hB11.trans (hb12.mono hgew)
  have hD3 := Lib.hid (dec_any _ _ _ ((hWL.app hzw).app (WL1 0 (by omega))) hS12)
  rw [sOk_not (l := headW W L G ++ zs ++ [0]) (W := W) (L := L) (G := G) (by rw [List.append_assoc]; exact List.take_left' (headW_len W L G)) (by rw [List.length_append, hl6.out]; simp)] at hD3
  unfold decR at hD3
  clear hB8 hb9 hD2 hS8 hO8 hO9 hO11 p7 r7 p9 r9 hB9 p0 p1 q0 q1 hk12 p11 r11 hS12
  go_wp2_with (at_builtin; refine Lib.wpList_append_run _ rfl _ _ _ _ rfl _ _ rfl rfl _ _ hrun2 ?_)
  refine hD3.out.mono ?_
  rintro e w13 ⟨rfl, hb13⟩
  have hB13 := hB12.trans (hb13.mono hB12.size)
  have p13 := (p12.keep hb13).alloc (.cells #[.int .i64 0, .int .i64 0] 23)
  have r13 := (r12.keep hb13).alloc (.cells #[.int .i64 0, .int .i64 0] 23)
  have hB14 : Below w.heap.size w (w13.alloc (.cells #[.int .i64 0, .int .i64 0] 23)) := hB13.alloc hB13.size _
  clear hb13 hB12 hB13 hB11 hB10 hb12 hD3 hrun2 p12 r12
  obtain ⟨p0, p1⟩ := id p13
  obtain ⟨q0, q1⟩ := id r13
  go_wp2_with fail
  go_ret
  exact ⟨rfl, hB14⟩
theorem superBack (a b c d v : Int) (w : World) (h1 : 0 ≤ a) (h2 : a ≤ 255) (h3 : 0 ≤ b) (h4 : b ≤ 255) (h5 : 0 ≤ c) (h6 : c ≤ 255) (h7 : 0 ≤ d) (h8 : d ≤ 65535) (h9 : 0 ≤ v) (h10 : v ≤ 18446744073709551615) :
    Calls Try.prog 5 #[.int .u8 a, .int .u8 b, .int .u8 c, .int .u16 d, .int .u64 v] w fun e w' => e = .returned (.bool true) ∧ Below w.heap.size w w' := by
  obtain ⟨W, L, G, n1, n2, n3, n4⟩ := small_nat a b c h1 h3 h5
  obtain ⟨d', rfl⟩ := Int.eq_ofNat_of_zero_le h7
  obtain ⟨v', rfl⟩ := Int.eq_ofNat_of_zero_le h9
  obtain ⟨o1, o2, o3, o4⟩ := gOk_t n3
  exact superBack_in a b c W L G (W - 8) d' _ v' w n1 n2 n3 n4 (by omega) rfl (by omega) (by omega) h1 h2 h3 h4 h5 h6
end Go.Proofs.Ytjmilngndoiceaa
