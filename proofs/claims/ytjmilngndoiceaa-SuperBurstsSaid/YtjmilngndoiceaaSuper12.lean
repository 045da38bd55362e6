/-
  The laws of package super: SuperBursts.
-/
import Derived.Test.YtjmilngndoiceaaSuper11
set_option linter.unusedVariables false
set_option linter.unusedSimpArgs false
namespace Go.Proofs.Ytjmilngndoiceaa
open Go.RowKit

/-- behind words and their check sum the register is one and the same -/
theorem residue (l : List Nat) : foldT 4294967295 (l ++ [moreN 0 l]) = turnN 64 4294967295 0 := by
  have hr := foldT_lt l 4294967295 (by omega)
  have e : foldT 4294967295 (l ++ [moreN 0 l]) = turnN 64 (foldT 4294967295 l) (moreN 0 l) := by
    unfold foldT; rw [List.foldl_append]; rfl
  rw [e]
  have hm : moreN 0 l = 4294967295 - foldT 4294967295 l := rfl
  rw [hm]
  generalize foldT 4294967295 l = r at *
  have h1 := turn_zero 64 r (4294967295 - r)
  rw [show (4294967295 - r) / 2 ^ 64 = 0 from Nat.div_eq_of_lt (by omega), Nat.xor_zero] at h1
  rw [h1]
  congr 1
  have h2 := not_nat r hr
  rw [← h2, Nat.xor_comm 4294967295 r, ← Nat.xor_assoc, Nat.xor_self, Nat.zero_xor]
theorem sealed_flip (h7 : List Nat) (k b : Nat) (hb : b < 4294967296) (hk : k < 64 * (h7.length + 1)) (z7 : List Nat) (he : flipL (h7 ++ [moreN 0 h7]) k b = z7 ++ [moreN 0 z7]) : z7 ++ [moreN 0 z7] = h7 ++ [moreN 0 h7] := by
  have hl : (h7 ++ [moreN 0 h7]).length = h7.length + 1 := by simp
  have hs := flip_sum (h7 ++ [moreN 0 h7]) k b hb (by rw [hl]; exact hk)
  have hq := flip_same (h7 ++ [moreN 0 h7]) k b (by rw [hl]; exact hk)
  rw [he] at hs hq
  refine hq.2 (hs.1 ?_)
  have e1 : moreN 0 (z7 ++ [moreN 0 z7]) = 4294967295 - foldT 4294967295 (z7 ++ [moreN 0 z7]) := rfl
  have e2 : moreN 0 (h7 ++ [moreN 0 h7]) = 4294967295 - foldT 4294967295 (h7 ++ [moreN 0 h7]) := rfl
  rw [e1, e2, residue, residue]
theorem sOk_flip (W L G K k b : Nat) (zs : List Nat) (hz : zs.length = K) (hK : W = 8 + K) (hg : gOk W L = true) (hG : gN W L = (G : Int)) (hb : b < 4294967296) (hk : k < 512) :
    sOk (flipL (headW W L G) k b ++ zs) = decide (flipL (headW W L G) k b = headW W L G) := by
  by_cases h : flipL (headW W L G) k b = headW W L G
  · rw [decide_eq_true h, h]
    exact sOk_pad zs hg hG (by omega)
  · rw [decide_eq_false h, Bool.eq_false_iff]
    intro hs
    have hl : (flipL (headW W L G) k b).length = 8 := by rw [flip_len]; exact headW_len _ _ _
    unfold sOk at hs
    simp only [Bool.and_eq_true, decide_eq_true_eq] at hs
    have h2 := hs.2.2
    rw [List.take_left' hl] at h2
    have h3 := h2
    unfold headW at h3
    refine h ?_
    rw [h2]
    refine sealed_flip (headL W L G) k b hb (by simp [headL]; omega) _ ?_
    exact h3
theorem wp_append_run {P : Program} {w w' : World} {o : Oper} {a : Act} {K : Act → World → Prop} {Q : Exit → Act → World → Prop} (s x : Operand) (t u : TypeId)
    (hop : o.op = Op.call { callee := Callee.builtin Builtin.append, args := #[s, x], argTypes := #[t, u] }) (vs vx v : Value) (hs : a.eval s = vs) (hx : a.eval x = vx)
    (hrun : (Builtin.append_ #[t, u] o.type #[vs, vx]).run P w = .ok v w') (h : K (a.put o.dst v) w') : Oper.wp P o a w K Q := by
  unfold Oper.wp
  simp [execOp, hop, resolve, invoke, builtin, hs, hx, hrun, Result.andThen]
  exact h
set_option maxRecDepth 10000 in
set_option maxHeartbeats 8000000 in
theorem superBursts_in (a b c : Int) (W L G K at' B : Nat) (w : World) (n1 : smW a b c = W) (n2 : smL a = L) (n3 : gOk W L = true) (n4 : gN W L = (G : Int)) (hK : W = 8 + K) (hat : at' < 65536) (hB : B < 4294967296)
    (h1 : 0 ≤ a) (h2 : a ≤ 255) (h3 : 0 ≤ b) (h4 : b ≤ 255) (h5 : 0 ≤ c) (h6 : c ≤ 255) :
    Calls Try.prog 6 #[.int .u8 a, .int .u8 b, .int .u8 c, .int .u16 at', .int .u32 B] w fun e w' => e = .returned (.bool true) ∧ Below w.heap.size w w' := by
  have hA := Lib.hid awake06
  have hM1 := Lib.hid (fun w => small_any a b c w h1 h2 h3 h4 h5 h6)
  rw [n1, n2] at hM1
  obtain ⟨o1, o2, o3, o4⟩ := gOk_t n3
  obtain ⟨g1', g2', _, _⟩ := gN_bd n3
  rw [n4] at g1' g2'
  have hE1 := Lib.hid (fun w => senc_t W L G w n3 n4)
  have hWL : WL (headW W L G) := headW_WL (by omega) (by omega) (by omega)
  have hDK := Lib.hid (fun zs k b hz hb hk => sOk_flip W L G K k b zs hz hK n3 n4 hb hk)
  have hhl : (headW W L G).length = 8 := headW_len _ _ _
  have s1 : (W : Int) - 8 = (K : Int) := by omega
  have hWb : W ≤ 65536 := by omega
  have hHd := Lib.hid (show headL W L G ++ [moreN 0 (headL W L G)] = headW W L G from rfl)
  generalize headW W L G = hw at *
  replace hK := Lib.hid hK
  replace s1 := Lib.hid s1
  clear n1 n2 n3 n4 h1 h2 h3 h4 h5 h6 o1 o2 o3 o4 g1' g2'
  go_enter Try.func6, Try.ntmps6
  go_wp2_with fail
  refine (hA.out _).mono ?_
  rintro e w1 ⟨rfl, hB1⟩
  go_wp2_with fail
  refine (hM1.out _).mono ?_
  rintro e w2 ⟨rfl, hb2⟩
  have hB2 := hB1.trans (hb2.mono hB1.size)
  have p2 := C2.new w2 (.int .i64 W) (.int .i64 L) 23
  have hB2' : Below w.heap.size w (w2.alloc (.cells #[.int .i64 W, .int .i64 L] 23)) := hB2.alloc hB2.size _
  clear hb2 hB2 hB1
  obtain ⟨p0, p1⟩ := id p2
  go_wp2_with fail
  refine (hE1.out _).mono ?_
  rintro e w4 ⟨ge, rfl, hge, hR, hb4⟩
  rw [hHd.out] at hR
  have hB4 := hB2'.trans (hb4.mono hB2'.size)
  have p4 := p2.keep hb4
  have hSl := hR.sl
  rw [hhl] at hSl
  have hSlt := hR.lt
  clear hb4 hB2' p0 p1 p2 hge
  obtain ⟨p0, p1⟩ := id p4
  have hd4 : Below w4.heap.size w4 w4.drew := (Below.refl _ _).drew
  have hd5 : Below w4.heap.size w4 (w4.drew.alloc (.cells #[] (34 : Nat))) := hd4.alloc (Nat.le_refl _) _
  have hO0 : (w4.drew.alloc (.cells #[] (34 : Nat))).ownsRow w4.heap.size 34 1 (.slice (some ⟨w4.heap.size, 0, none⟩) 0 0) 0 (wv []) := World.ownsRow_lit (base := w4.heap.size) (e := 34) (size := 1) w4.drew #[] 0 (Nat.le_refl _) (by unfold maxLen; omega) rfl
  have hSq : SL (w4.drew.alloc (.cells #[] (34 : Nat))) (.slice (some ⟨ge, 0, none⟩) 8 8) hw := hSl.keep hd5
  obtain ⟨g5, c5, w5, hrun5, hO5, hb5⟩ := appSL (xs := []) hO0 rfl hSq (by simp) (by omega) (by omega)
  rw [Nat.zero_add, List.nil_append] at hO5
  rw [Nat.zero_add] at hrun5
  rw [hhl] at hrun5 hO5
  have hb45 : Below w4.heap.size w4 w5 := hd5.trans hb5
  obtain ⟨gx, cx, w6, hrun6, hO6, hb6, _, _⟩ := appz_own (k := K) hO5 hhl (by have := hK.out; omega) hb45.size
  rw [← s1.out] at hrun6
  rw [← hK.out] at hrun6 hO6
  have hb46 : Below w4.heap.size w4 w6 := hb45.trans hb6
  have fw0 : IntKind.i64.wrap ((W : Int) - 8) = (W : Int) - 8 := by rw [IntKind.wrap_i64]; omega
  clear hO0 hSq hO5 hb5 hb6
  go_wp2_with fail
  refine wp_region_held_drew (S := (fun w' => w'.cell? ⟨w2.heap.size, 0, none⟩ = some (.int .i64 W) ∧ Below w4.heap.size w4 w')) (by kernel_rfl) ⟨p0, hd4⟩ (fun hHeld => ?_)
  refine takeL 1 (v := ?_) rfl (by kernel_rfl) (by kernel_rfl) (by kernel_rfl) (fun _ _ _ h => h) (by rfl) (by assumption) ?_ ?_
  rotate_left
  · (intro w hSw; (try dsimp only at hSw); (try go_split_ands); go_simp <;> with_reducible rfl)
  try simp only [Act.put, List.setIfInBounds_toArray, List.set_cons_zero, List.set_cons_succ]
  refine takeL 3 (v := ?_) rfl (by kernel_rfl) (by kernel_rfl) (by kernel_rfl) (fun _ _ _ h => h) (by rfl) (by assumption) ?_ ?_
  rotate_left
  · (intro w hSw; (try dsimp only at hSw); (try go_split_ands); go_simp <;> with_reducible rfl)
  try simp only [Act.put, List.setIfInBounds_toArray, List.set_cons_zero, List.set_cons_succ]
  refine takeL 4 (v := ?_) rfl (by kernel_rfl) (by kernel_rfl) (by kernel_rfl) (fun _ _ _ h => h) (by rfl) (by assumption) ?_ ?_
  rotate_left
  · (intro w hSw; (try dsimp only at hSw); (try go_split_ands); go_simp <;> with_reducible rfl)
  try simp only [Act.put, List.setIfInBounds_toArray, List.set_cons_zero, List.set_cons_succ]
  refine takeL 5 (v := ?_) rfl (by kernel_rfl) (by kernel_rfl) (by kernel_rfl) (fun _ _ _ h => h) (by rfl) (by assumption) ?_ ?_
  rotate_left
  · (intro w hSw; (try dsimp only at hSw); (try go_split_ands); go_simp <;> with_reducible rfl)
  try simp only [Act.put, List.setIfInBounds_toArray, List.set_cons_zero, List.set_cons_succ]
  refine oneL 0 rfl (by kernel_rfl) (fun K hK => ?_)
  go_simp
  refine hK.out _ _ ⟨cellK p0 hd5, hd5⟩ (fun hHeld2 => ?_)
  clear hK K hHeld hHeld2
  try simp only [Act.put, List.setIfInBounds_toArray, List.set_cons_zero, List.set_cons_succ]
  refine oneL 2 rfl (by kernel_rfl) (fun K hK => ?_)
  rw [if_pos (by rfl)]
  refine wp_append_run _ _ _ _ rfl _ _ _ rfl rfl hrun5 ?_
  refine hK.out _ _ ⟨cellK p0 hb45, hb45⟩ (fun hHeld2 => ?_)
  clear hK K hHeld2
  try simp only [Act.put, List.setIfInBounds_toArray, List.set_cons_zero, List.set_cons_succ]
  refine oneL 6 rfl (by kernel_rfl) (fun K hK => ?_)
  rw [if_pos (by rfl)]
  refine wp_append_run _ _ _ _ rfl _ _ _ rfl rfl hrun6 ?_
  refine hK.out _ _ ⟨cellK p0 hb46, hb46⟩ (fun hHeld2 => ?_)
  clear hK K
  try simp only [Act.put, List.setIfInBounds_toArray, List.set_cons_zero, List.set_cons_succ]
  refine takeL 7 (v := ?_) rfl (by kernel_rfl) (by kernel_rfl) (by kernel_rfl) (fun _ _ _ h => h) (by rfl) (by assumption) ?_ ?_
  rotate_left
  · (intro w hSw; (try dsimp only at hSw); (try go_split_ands); go_simp <;> with_reducible rfl)
  try simp only [Act.put, List.setIfInBounds_toArray, List.set_cons_zero, List.set_cons_succ]
  refine wpAnyH_done (by kernel_rfl) ?_ _
  obtain ⟨k, hk⟩ : ∃ k, k = at' % 512 := ⟨_, rfl⟩
  have hkM : k < 512 := by rw [hk]; exact Nat.mod_lt _ (by omega)
  have hk2 : (at' : Int) % 512 = (k : Int) := by omega
  have hflip0 : hw = flipL hw k (B % 2 ^ 0) := by
    rw [Nat.pow_zero, Nat.mod_one]
    exact ((flip_same hw k 0 (by omega)).2 (by simp)).symm
  have hzl : (List.replicate K 0).length = K := by simp
  have hzW := zeros_WL K
  generalize List.replicate K 0 = zs at *
  have hO6' : w6.ownsRow w4.heap.size 34 1 (.slice (some ⟨gx, 0, none⟩) W cx) W (wv (flipL hw k (B % 2 ^ 0) ++ zs)) := by rw [← hflip0]; exact hO6
  have hBU := Lib.hid (fun i => flip_skip hw B k i)
  have hBS := Lib.hid (fun i => flip_step hw B k i)
  have hFL := Lib.hid (fun b => show (flipL hw k b).length = 8 from by rw [flip_len]; exact hhl)
  have hFW := Lib.hid (fun b => flip_WL k b hWL)
  clear hk hflip0 hO6 hrun5 hrun6 fw0
  go_wp2_with fail
  simp only [hk2]
  clear hk2
  go_loopw [17] (fun i wr => ∃ n : Nat, n ≤ 32 ∧ k + n ≤ 512 ∧ i = .int .i64 n ∧ wr.ownsRow w4.heap.size 34 1 (.slice (some ⟨gx, 0, none⟩) W cx) W (wv (flipL hw k (B % 2 ^ n) ++ zs)) ∧ Below w4.heap.size w4 wr) (fun i _ => 33 - (intOf i).toNat)
  case atStart => exact ⟨0, by omega, by omega, rfl, hO6', hb46⟩
  case round =>
    clear hO6' hb46
    obtain ⟨n, hn32, hnM, rfl, hown, hBw⟩ := hrel
    have hxN : (flipL hw k (B % 2 ^ n) ++ zs).length = W := by rw [List.length_append, hFL.out, hzl]; exact hK.out.symm
    by_cases h32 : n < 32
    · have h32' : (n : Int) < 32 := by omega
      by_cases hkn : k + n < 512
      · have hkn' : (k : Int) + (n : Int) < 512 := by omega
        have hq8 : (k + n) / 64 < 8 := by omega
        have hcell := hown.cellAt ((k + n) / 64) (by have := hK.out; omega)
        rw [wv_at _ _ (by rw [hxN]; have := hK.out; omega), List.getD_eq_getElem?_getD, List.getElem?_append_left (by rw [hFL.out]; exact hq8), ← List.getD_eq_getElem?_getD] at hcell
        have hfz := hown.frozenAt ((k + n) / 64)
        have hst := Lib.hid (hown.stored ((k + n) / 64))
        have hxl := (hFW.out (B % 2 ^ n)).at ((k + n) / 64) (by rw [hFL.out]; exact hq8)
        have hbd : B / 2 ^ n ≤ B := Nat.div_le_self _ _
        have T : (bits .and .u32 ((B : Int) / 2 ^ n) 1 == 1) = B.testBit n := by
          rw [pow_cast, show (B : Int) / ((2 ^ n : Nat) : Int) = ((B / 2 ^ n : Nat) : Int) by simp, show (1 : Int) = ((1 : Nat) : Int) from rfl, u32_and_nat _ 1 (by omega) (by omega), Nat.and_one_is_mod, Nat.testBit_eq_decide_div_mod_eq]
          have hz : B / 2 ^ n % 2 = 0 ∨ B / 2 ^ n % 2 = 1 := by omega
          rcases hz with hz | hz <;> rw [hz] <;> decide
        clear hbd
        cases hbit : B.testBit n
        · rw [hbit] at T
          have hsk := hBU.out n hbit
          clear hcell hfz hst hxl
          go_wp2_with fail
          go_roundw
          case rel => exact ⟨n + 1, by omega, by omega, by go_num, by rw [hsk]; exact hown, hBw⟩
          case measure => simp [intOf]; omega
        · rw [hbit] at T
          have hsk := Lib.hid (hBS.out n hbit (by omega))
          generalize hmm : k + n = mm at hcell hfz hst hxl hsk hq8
          have hw1 : IntKind.i64.wrap ((k : Int) + (n : Int)) = (mm : Int) := by rw [IntWalk.i64_in _ ⟨by omega, by omega⟩]; omega
          have hdiv : (mm : Int).tdiv 64 = ((mm / 64 : Nat) : Int) := by rw [Int.tdiv_eq_ediv_of_nonneg (by omega)]; omega
          have hdiv2 : (mm : Int) / 64 = ((mm / 64 : Nat) : Int) := by omega
          have hrem : (mm : Int).tmod 64 = ((mm % 64 : Nat) : Int) := by rw [Int.tmod_eq_emod_of_nonneg (by omega)]; omega
          have hrem2 : (mm : Int) % 64 = ((mm % 64 : Nat) : Int) := by omega
          have ht1 : mm % 64 < 64 := by omega
          generalize hq0 : mm / 64 = q at hcell hfz hst hxl hsk hdiv hdiv2 hq8
          generalize ht0 : mm % 64 = t at hsk hrem hrem2 ht1
          clear hq0 ht0
          have hq2 : (q : Int) < (W : Int) := by have := hK.out; omega
          have hwq : IntKind.i64.wrap (q : Int) = (q : Int) := IntWalk.i64_in _ ⟨by omega, by omega⟩
          have hwt : IntKind.i64.wrap (t : Int) = (t : Int) := IntWalk.i64_in _ ⟨by omega, by omega⟩
          replace hmm := Lib.hid hmm
          have hp := pow_lt64 (k := t) ht1
          have hwr : IntKind.u64.wrap ((2 : Int) ^ t) = ((2 ^ t : Nat) : Int) := by rw [IntKind.wrap_u64, pow_cast]; generalize 2 ^ t = y at *; omega
          have hgx0 := (hown.lt gx rfl).1
          generalize hX : (flipL hw k (B % 2 ^ n)).getD q 0 = X at hcell hxl hsk
          have eX : bits .xor .u64 (X : Int) (IntKind.u64.wrap ((2 : Int) ^ t)) = ((X ^^^ 2 ^ t : Nat) : Int) := by rw [hwr]; exact u64_xor_nat X _ hxl (by omega)
          have hsk2 := Lib.hid (show wv (flipL hw k (B % 2 ^ (n + 1)) ++ zs) = (wv (flipL hw k (B % 2 ^ n) ++ zs)).set q (.int .u64 (X ^^^ 2 ^ t : Nat)) from by
            rw [hsk.out, wv_append, wv_append, List.set_append_left _ _ (by rw [wv_len, hFL.out]; exact hq8)]
            congr 1
            unfold wv
            rw [List.map_set])
          clear hX hwr hp hxN
          replace hK := Lib.hid hK.out
          go_wp2_with fail
          refine wp_region_held_drew (S := fun _ => True) (by kernel_rfl) trivial (fun hHeld => ?_)
          refine takeL 0 (v := ?_) rfl (by kernel_rfl) (by kernel_rfl) (by kernel_rfl) (fun _ _ _ h => h) (by rfl) trivial ?_ ?_
          rotate_left
          · (intro w hSw; go_simp <;> with_reducible rfl)
          try simp only [Act.put, List.setIfInBounds_toArray, List.set_cons_zero, List.set_cons_succ]
          refine takeL 1 (v := ?_) rfl (by kernel_rfl) (by kernel_rfl) (by kernel_rfl) (fun _ _ _ h => h) (by rfl) trivial ?_ ?_
          rotate_left
          · (intro w hSw; go_simp <;> with_reducible rfl)
          try simp only [Act.put, List.setIfInBounds_toArray, List.set_cons_zero, List.set_cons_succ]
          refine takeL 2 (v := ?_) rfl (by kernel_rfl) (by kernel_rfl) (by kernel_rfl) (fun _ _ _ h => h) (by rfl) trivial ?_ ?_
          rotate_left
          · (intro w hSw; go_simp <;> with_reducible rfl)
          try simp only [Act.put, List.setIfInBounds_toArray, List.set_cons_zero, List.set_cons_succ]
          refine takeL 3 (v := ?_) rfl (by kernel_rfl) (by kernel_rfl) (by kernel_rfl) (fun _ _ _ h => h) (by rfl) trivial ?_ ?_
          rotate_left
          · (intro w hSw; go_simp <;> with_reducible rfl)
          try simp only [Act.put, List.setIfInBounds_toArray, List.set_cons_zero, List.set_cons_succ]
          refine takeL 4 (v := ?_) rfl (by kernel_rfl) (by kernel_rfl) (by kernel_rfl) (fun _ _ _ h => h) (by rfl) trivial ?_ ?_
          rotate_left
          · (intro w hSw; go_simp <;> with_reducible rfl)
          try simp only [Act.put, List.setIfInBounds_toArray, List.set_cons_zero, List.set_cons_succ]
          refine takeL 5 (v := ?_) rfl (by kernel_rfl) (by kernel_rfl) (by kernel_rfl) (fun _ _ _ h => h) (by rfl) trivial ?_ ?_
          rotate_left
          · (intro w hSw; go_simp <;> with_reducible rfl)
          try simp only [Act.put, List.setIfInBounds_toArray, List.set_cons_zero, List.set_cons_succ]
          refine takeL 6 (v := ?_) rfl (by kernel_rfl) (by kernel_rfl) (by kernel_rfl) (fun _ _ _ h => h) (by rfl) trivial ?_ ?_
          rotate_left
          · (intro w hSw; go_simp <;> with_reducible rfl)
          try simp only [Act.put, List.setIfInBounds_toArray, List.set_cons_zero, List.set_cons_succ]
          refine takeL 7 (v := ?_) rfl (by kernel_rfl) (by kernel_rfl) (by kernel_rfl) (fun _ _ _ h => h) (by rfl) trivial ?_ ?_
          rotate_left
          · (intro w hSw; go_simp <;> with_reducible rfl)
          try simp only [Act.put, List.setIfInBounds_toArray, List.set_cons_zero, List.set_cons_succ]
          refine takeL 8 (v := ?_) rfl (by kernel_rfl) (by kernel_rfl) (by kernel_rfl) (fun _ _ _ h => h) (by rfl) trivial ?_ ?_
          rotate_left
          · (intro w hSw; go_simp <;> with_reducible rfl)
          try simp only [Act.put, List.setIfInBounds_toArray, List.set_cons_zero, List.set_cons_succ]
          refine takeL 9 (v := ?_) rfl (by kernel_rfl) (by kernel_rfl) (by kernel_rfl) (fun _ _ _ h => h) (by rfl) trivial ?_ ?_
          rotate_left
          · (intro w hSw; go_simp <;> with_reducible rfl)
          try simp only [Act.put, List.setIfInBounds_toArray, List.set_cons_zero, List.set_cons_succ]
          refine takeL 10 (v := ?_) rfl (by kernel_rfl) (by kernel_rfl) (by kernel_rfl) (fun _ _ _ h => h) (by rfl) trivial ?_ ?_
          rotate_left
          · (intro w hSw; go_simp <;> with_reducible rfl)
          try simp only [Act.put, List.setIfInBounds_toArray, List.set_cons_zero, List.set_cons_succ]
          refine takeL 12 (v := ?_) rfl (by kernel_rfl) (by kernel_rfl) (by kernel_rfl) (fun _ _ _ h => h) (by rfl) trivial ?_ ?_
          rotate_left
          · (intro w hSw; go_simp <;> with_reducible rfl)
          try simp only [Act.put, List.setIfInBounds_toArray, List.set_cons_zero, List.set_cons_succ]
          refine takeL 13 (v := ?_) rfl (by kernel_rfl) (by kernel_rfl) (by kernel_rfl) (fun _ _ _ h => h) (by rfl) trivial ?_ ?_
          rotate_left
          · (intro w hSw; go_simp <;> with_reducible rfl)
          try simp only [Act.put, List.setIfInBounds_toArray, List.set_cons_zero, List.set_cons_succ]
          refine takeL 14 (v := ?_) rfl (by kernel_rfl) (by kernel_rfl) (by kernel_rfl) (fun _ _ _ h => h) (by rfl) trivial ?_ ?_
          rotate_left
          · (intro w hSw; go_simp <;> with_reducible rfl)
          try simp only [Act.put, List.setIfInBounds_toArray, List.set_cons_zero, List.set_cons_succ]
          refine takeL 15 (v := ?_) rfl (by kernel_rfl) (by kernel_rfl) (by kernel_rfl) (fun _ _ _ h => h) (by rfl) trivial ?_ ?_
          rotate_left
          · (intro w hSw; go_simp <;> with_reducible rfl)
          try simp only [Act.put, List.setIfInBounds_toArray, List.set_cons_zero, List.set_cons_succ]
          refine takeL 16 (v := ?_) rfl (by kernel_rfl) (by kernel_rfl) (by kernel_rfl) (fun _ _ _ h => h) (by rfl) trivial ?_ ?_
          rotate_left
          · (intro w hSw; go_simp <;> with_reducible rfl)
          try simp only [Act.put, List.setIfInBounds_toArray, List.set_cons_zero, List.set_cons_succ]
          refine oneL 11 rfl (by kernel_rfl) (fun K hK => ?_)
          go_simp
          refine hK.out _ _ trivial (fun _ => ?_)
          clear hK K
          try simp only [Act.put, List.setIfInBounds_toArray, List.set_cons_zero, List.set_cons_succ]
          refine takeL 17 (v := ?_) rfl (by kernel_rfl) (by kernel_rfl) (by kernel_rfl) (fun _ _ _ h => h) (by rfl) trivial ?_ ?_
          rotate_left
          · (intro w hSw; go_simp <;> with_reducible rfl)
          try simp only [Act.put, List.setIfInBounds_toArray, List.set_cons_zero, List.set_cons_succ]
          refine takeL 18 (v := ?_) rfl (by kernel_rfl) (by kernel_rfl) (by kernel_rfl) (fun _ _ _ h => h) (by rfl) trivial ?_ ?_
          rotate_left
          · (intro w hSw; go_simp <;> with_reducible rfl)
          try simp only [Act.put, List.setIfInBounds_toArray, List.set_cons_zero, List.set_cons_succ]
          refine oneL 19 rfl (by kernel_rfl) (fun K hK => ?_)
          go_simp
          refine hK.out _ _ trivial (fun _ => ?_)
          clear hK K
          try simp only [Act.put, List.setIfInBounds_toArray, List.set_cons_zero, List.set_cons_succ]
          have hW2 := (hst.out (.int .u64 (X ^^^ 2 ^ t : Nat))).1
          rw [← hsk2.out] at hW2
          have hB2 := (hBw.setCell (p := ⟨gx, q, none⟩) hgx0 (.int .u64 (X ^^^ 2 ^ t : Nat))).drew
          refine wpAnyH_done (by kernel_rfl) ?_ _
          go_wp2_with fail
          go_roundw
          case rel => exact ⟨n + 1, by omega, by omega, by go_num, hW2, hB2⟩
          case measure => simp [intOf]; omega
      · have hend : k + n = 512 := by omega
        have hkn' : ¬ (k : Int) + (n : Int) < 512 := by omega
        have hbl : B % 2 ^ n < 4294967296 := Nat.lt_of_le_of_lt (Nat.mod_le _ _) hB
        have hsd := hDK.out zs k (B % 2 ^ n) hzl hbl hkM
        have hfl := hFL.out (B % 2 ^ n)
        have hfw := hFW.out (B % 2 ^ n)
        clear hBU hBS hbl
        generalize flipL hw k (B % 2 ^ n) = ys at *
        have hxlen : (ys ++ zs).length = W := hxN
        have hzw : WL zs := hzW
        have hX := SL.of_owns' hown hxlen
        have hD := dec_any _ (ys ++ zs) wr (hfw.app hzw) hX
        have ht8 : (ys ++ zs).take 8 = ys := List.take_left' hfl
        have hX8 := hX.take (m := 8) (by rw [hxlen]; have := hK.out; omega)
        rw [ht8] at hX8
        rw [hsd] at hD
        have hSl2 := hSl.keep hBw
        have hWo := fun w1 (hb : Below wr.heap.size wr w1) => words_any _ _ ys hw w1 (by omega) (by omega) (by omega) (hX8.keep hb) (hSl2.keep hb)
        have hBW := hB4.trans (hBw.mono hB4.size)
        have h8W : (8 : Int) ≤ (W : Int) := by have := hK.out; omega
        obtain ⟨hcx1, hcx2⟩ := own_cap hown
        have hcxW : (W : Int) ≤ (cx : Int) := by omega
        have h8c : (8 : Int) ≤ (cx : Int) := by omega
        cases hdd : decide (ys = hw)
        · rw [hdd] at hD hWo
          unfold decR at hD
          replace hD := Lib.hid hD
          replace hWo := Lib.hid hWo
          clear hdd hsd hown hxlen ht8 hX hX8 hxN hSl2 hBw hFL hFW hDK
          go_wp2_with fail
          refine hD.out.mono ?_
          rintro e w8 ⟨rfl, hb8⟩
          have hB8 := hBW.trans (hb8.mono hBW.size)
          have hB9 := hB8.alloc hB8.size (.cells #[.int .i64 0, .int .i64 0] (23 : Nat))
          have hq := Lib.hid (hWo.out _ (hb8.alloc hb8.size (.cells #[.int .i64 0, .int .i64 0] (23 : Nat))))
          go_wp2_with fail
          refine hq.out.mono ?_
          rintro e w9 ⟨rfl, hb9⟩
          have hB10 := hB9.trans (hb9.mono hB9.size)
          go_wp2_with fail
          go_ret
          exact ⟨rfl, hB10⟩
        · rw [hdd] at hD hWo
          unfold decR at hD
          obtain ⟨z1, hz1⟩ : ∃ z1 : Int, z1 = (((ys ++ zs).length : Nat) : Int) := ⟨_, rfl⟩
          obtain ⟨z2, hz2⟩ : ∃ z2 : Int, z2 = (((ys ++ zs).getD 3 0 : Nat) : Int) := ⟨_, rfl⟩
          simp only [] at hD
          rw [← hz1, ← hz2] at hD
          replace hD := Lib.hid hD
          replace hWo := Lib.hid hWo
          clear hz1 hz2 hdd hsd hown hxlen ht8 hX hX8 hxN hSl2 hBw hFL hFW hDK
          go_wp2_with fail
          refine hD.out.mono ?_
          rintro e w8 ⟨rfl, hb8⟩
          have hB8 := hBW.trans (hb8.mono hBW.size)
          have hB9 := hB8.alloc hB8.size (.cells #[.int .i64 z1, .int .i64 z2] (23 : Nat))
          have hq := Lib.hid (hWo.out _ (hb8.alloc hb8.size (.cells #[.int .i64 z1, .int .i64 z2] (23 : Nat))))
          go_wp2_with fail
          refine hq.out.mono ?_
          rintro e w9 ⟨rfl, hb9⟩
          have hB10 := hB9.trans (hb9.mono hB9.size)
          go_wp2_with fail
          go_ret
          exact ⟨rfl, hB10⟩
    · have h32' : ¬ (n : Int) < 32 := by omega
      have hbl : B % 2 ^ n < 4294967296 := Nat.lt_of_le_of_lt (Nat.mod_le _ _) hB
      have hsd := hDK.out zs k (B % 2 ^ n) hzl hbl hkM
      have hfl := hFL.out (B % 2 ^ n)
      have hfw := hFW.out (B % 2 ^ n)
      clear hBU hBS hbl
      generalize flipL hw k (B % 2 ^ n) = ys at *
      have hxlen : (ys ++ zs).length = W := hxN
      have hzw : WL zs := hzW
      have hX := SL.of_owns' hown hxlen
      have hD := dec_any _ (ys ++ zs) wr (hfw.app hzw) hX
      have ht8 : (ys ++ zs).take 8 = ys := List.take_left' hfl
      have hX8 := hX.take (m := 8) (by rw [hxlen]; have := hK.out; omega)
      rw [ht8] at hX8
      rw [hsd] at hD
      have hSl2 := hSl.keep hBw
      have hWo := fun w1 (hb : Below wr.heap.size wr w1) => words_any _ _ ys hw w1 (by omega) (by omega) (by omega) (hX8.keep hb) (hSl2.keep hb)
      have hBW := hB4.trans (hBw.mono hB4.size)
      have h8W : (8 : Int) ≤ (W : Int) := by have := hK.out; omega
      obtain ⟨hcx1, hcx2⟩ := own_cap hown
      have hcxW : (W : Int) ≤ (cx : Int) := by omega
      have h8c : (8 : Int) ≤ (cx : Int) := by omega
      cases hdd : decide (ys = hw)
      · rw [hdd] at hD hWo
        unfold decR at hD
        replace hD := Lib.hid hD
        replace hWo := Lib.hid hWo
        clear hdd hsd hown hxlen ht8 hX hX8 hxN hSl2 hBw hFL hFW hDK
        go_wp2_with fail
        refine hD.out.mono ?_
        rintro e w8 ⟨rfl, hb8⟩
        have hB8 := hBW.trans (hb8.mono hBW.size)
        have hB9 := hB8.alloc hB8.size (.cells #[.int .i64 0, .int .i64 0] (23 : Nat))
        have hq := Lib.hid (hWo.out _ (hb8.alloc hb8.size (.cells #[.int .i64 0, .int .i64 0] (23 : Nat))))
        go_wp2_with fail
        refine hq.out.mono ?_
        rintro e w9 ⟨rfl, hb9⟩
        have hB10 := hB9.trans (hb9.mono hB9.size)
        go_wp2_with fail
        go_ret
        exact ⟨rfl, hB10⟩
      · rw [hdd] at hD hWo
        unfold decR at hD
        obtain ⟨z1, hz1⟩ : ∃ z1 : Int, z1 = (((ys ++ zs).length : Nat) : Int) := ⟨_, rfl⟩
        obtain ⟨z2, hz2⟩ : ∃ z2 : Int, z2 = (((ys ++ zs).getD 3 0 : Nat) : Int) := ⟨_, rfl⟩
        simp only [] at hD
        rw [← hz1, ← hz2] at hD
        replace hD := Lib.hid hD
        replace hWo := Lib.hid hWo
        clear hz1 hz2 hdd hsd hown hxlen ht8 hX hX8 hxN hSl2 hBw hFL hFW hDK
        go_wp2_with fail
        refine hD.out.mono ?_
        rintro e w8 ⟨rfl, hb8⟩
        have hB8 := hBW.trans (hb8.mono hBW.size)
        have hB9 := hB8.alloc hB8.size (.cells #[.int .i64 z1, .int .i64 z2] (23 : Nat))
        have hq := Lib.hid (hWo.out _ (hb8.alloc hb8.size (.cells #[.int .i64 z1, .int .i64 z2] (23 : Nat))))
        go_wp2_with fail
        refine hq.out.mono ?_
        rintro e w9 ⟨rfl, hb9⟩
        have hB10 := hB9.trans (hb9.mono hB9.size)
        go_wp2_with fail
        go_ret
        exact ⟨rfl, hB10⟩
theorem superBursts (a b c d e : Int) (w : World) (h1 : 0 ≤ a) (h2 : a ≤ 255) (h3 : 0 ≤ b) (h4 : b ≤ 255) (h5 : 0 ≤ c) (h6 : c ≤ 255) (h7 : 0 ≤ d) (h8 : d ≤ 65535) (h9 : 0 ≤ e) (h10 : e ≤ 4294967295) :
    Calls Try.prog 6 #[.int .u8 a, .int .u8 b, .int .u8 c, .int .u16 d, .int .u32 e] w fun e w' => e = .returned (.bool true) ∧ Below w.heap.size w w' := by
  obtain ⟨W, L, G, n1, n2, n3, n4⟩ := small_nat a b c h1 h3 h5
  obtain ⟨d', rfl⟩ := Int.eq_ofNat_of_zero_le h7
  obtain ⟨e', rfl⟩ := Int.eq_ofNat_of_zero_le h9
  obtain ⟨o1, o2, o3, o4⟩ := gOk_t n3
  exact superBursts_in a b c W L G (W - 8) d' e' w n1 n2 n3 n4 (by omega) (by omega) (by omega) h1 h2 h3 h4 h5 h6
end Go.Proofs.Ytjmilngndoiceaa
