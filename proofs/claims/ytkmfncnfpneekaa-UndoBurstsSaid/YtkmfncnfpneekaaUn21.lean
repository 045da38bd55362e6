/-
  The laws of package undo: UndoBursts.
-/
import Derived.Test.YtkmfncnfpneekaaUn15
import Derived.Test.YtkmfncnfpneekaaUSealB1
set_option linter.unusedVariables false
set_option linter.unusedSimpArgs false
namespace Go.Proofs.Ytkmfncnfpneekaa
open Go.RowKit Go.ChangeShapes Go.WideShapes Go.Deep

/-- behind words and their check sum the register is one and the same -/
theorem residue (l : List Nat) : foldT 4294967295 (l ++ [moreN 0 l]) = turnN 64 4294967295 0 := by
  have hr := foldT_lt l 4294967295 (by omega)
  have e : foldT 4294967295 (l ++ [moreN 0 l]) = turnN 64 (foldT 4294967295 l) (moreN 0 l) := by
    unfold foldT; rw [List.foldl_append]; rfl
  rw [e]
  have hm : moreN 0 l = 4294967295 - foldT 4294967295 l := rfl
  rw [hm]
  generalize foldT 4294967295 l = r at *
  have h1 := turn_zero 64 r (4294967295 - r)
  rw [show (4294967295 - r) / 2 ^ 64 = 0 from Nat.div_eq_of_lt (by omega), Nat.xor_zero] at h1
  rw [h1]
  congr 1
  have h2 := not_nat r hr
  rw [← h2, Nat.xor_comm 4294967295 r, ← Nat.xor_assoc, Nat.xor_self, Nat.zero_xor]
theorem sealed_flip (h7 : List Nat) (k b : Nat) (hb : b < 4294967296) (hk : k < 64 * (h7.length + 1)) (z7 : List Nat) (he : flipL (h7 ++ [moreN 0 h7]) k b = z7 ++ [moreN 0 z7]) : z7 ++ [moreN 0 z7] = h7 ++ [moreN 0 h7] := by
  have hl : (h7 ++ [moreN 0 h7]).length = h7.length + 1 := by simp
  have hs := flip_sum (h7 ++ [moreN 0 h7]) k b hb (by rw [hl]; exact hk)
  have hq := flip_same (h7 ++ [moreN 0 h7]) k b (by rw [hl]; exact hk)
  rw [he] at hs hq
  refine hq.2 (hs.1 ?_)
  have e1 : moreN 0 (z7 ++ [moreN 0 z7]) = 4294967295 - foldT 4294967295 (z7 ++ [moreN 0 z7]) := rfl
  have e2 : moreN 0 (h7 ++ [moreN 0 h7]) = 4294967295 - foldT 4294967295 (h7 ++ [moreN 0 h7]) := rfl
  rw [e1, e2, residue, residue]

theorem encP_parts {gn : Nat} {x : Pe} : ∃ h7 : List Nat, encP gn x = h7 ++ [moreN 0 h7] ∧ h7.length = x.2.length + 1 := ⟨firstW gn x.1.toNat x.2.length :: x.2, rfl, by simp⟩
theorem flip_first (l : List Nat) (k b : Nat) (hk : 64 ≤ k) (h0 : 0 < l.length) : (flipL l k b).getD 0 0 = l.getD 0 0 := by
  rw [flip_at l k b 0 h0]
  have e : b * 2 ^ k / 2 ^ (64 * 0) % 2 ^ 64 = 0 := by
    rw [Nat.mul_zero, Nat.pow_zero, Nat.div_one]
    obtain ⟨j, rfl⟩ : ∃ j, k = 64 + j := ⟨k - 64, by omega⟩
    rw [Nat.pow_add, ← Nat.mul_assoc, Nat.mul_comm b, Nat.mul_assoc]
    exact Nat.mul_mod_right _ _
  rw [e, Nat.xor_zero]
theorem split_last (ws : List Nat) (m s : Nat) (hl : ws.length = m + 2) (h : ws.getD (m + 1) 0 = s) : ws = ws.take (m + 1) ++ [s] := by
  have hd : ws.drop (m + 1) = [s] := by
    rw [List.drop_eq_getElem_cons (by omega), List.drop_of_length_le (by omega)]
    rw [List.getD_eq_getElem?_getD, List.getElem?_eq_getElem (by omega), Option.getD_some] at h
    rw [h]
  rw [← hd, List.take_append_drop]
/-- an entry of which 32 bits in a row are others isn't one -/
theorem burst_dec {gn : Nat} {x : Pe} (h : rightP x = true) (k b : Nat) (hk1 : 64 ≤ k) (hk2 : k < 64 * (x.2.length + 2)) (hb : b < 4294967296) :
    decL gn (flipL (encP gn x) k b) = if flipL (encP gn x) k b = encP gn x then some [x] else none := by
  have hen : encAll gn [x] = encP gn x := by unfold encAll; simp
  by_cases he : flipL (encP gn x) k b = encP gn x
  · rw [if_pos he, he, ← hen]
    exact decL_enc rfl (fun y hy => by rw [List.mem_singleton] at hy; subst hy; exact h)
  · rw [if_neg he]
    have hl : (flipL (encP gn x) k b).length = x.2.length + 2 := by rw [flip_len, encP_len]
    have hg := flip_first (encP gn x) k b hk1 (by rw [encP_len]; omega)
    have hm : manyN (flipL (encP gn x) k b) = x.2.length := by
      obtain ⟨_, e2, _⟩ := enc_at (gn := gn) h []
      rw [List.append_nil] at e2
      rw [← e2]
      unfold manyN
      rw [hg]
    have htk : tkB gn (flipL (encP gn x) k b) = false := by
      cases hq : tkB gn (flipL (encP gn x) k b) with
      | false => rfl
      | true =>
        exfalso
        obtain ⟨_, _, _, t4⟩ := tkB_t hq
        rw [hm] at t4
        obtain ⟨h7, e7, l7⟩ := encP_parts (gn := gn) (x := x)
        have hz : flipL (encP gn x) k b = (flipL (encP gn x) k b).take (x.2.length + 1) ++ [moreN 0 ((flipL (encP gn x) k b).take (x.2.length + 1))] := split_last _ _ _ hl t4
        refine he ?_
        rw [hz, e7]
        refine sealed_flip h7 k b hb (by rw [l7]; exact hk2) _ ?_
        rw [← e7]
        exact hz
    unfold decL
    rw [evs_f (by omega) htk, if_pos (by simp)]

set_option maxRecDepth 100000 in
set_option maxHeartbeats 4000000 in
theorem undoBursts_yes (gn : Nat) (a : Int) (A : Option Addr) (m c : Nat) (os : List Nat) (at' B : Nat) (w : World) (hgn : gn < 18446744073709551616) (hx : KL .u64 w (.slice A m c) os) (hm : os.length = m) (hl : WL os) (h4 : m ≤ 20) (hat : at' < 65536) (hB : B < 4294967296) (hr : rightP (a, os) = true) :
    Calls Try.prog 8 #[.int .u64 (gn : Nat), .agg #[.int .i64 a, .slice A m c], .int .u16 (at' : Nat), .int .u32 (B : Nat)] w fun e w' => e = .returned (.bool true) ∧ Below w.heap.size w w' := by
  have hX0 := Bk.new w (.int .i64 a) (.slice A m c)
  have hb0 : Below w.heap.size w (w.alloc (.cells #[.int .i64 a, .slice A m c] 25)) := (Below.refl _ _).alloc (Nat.le_refl _) _
  have hAw := awake13 (w.alloc (.cells #[.int .i64 a, .slice A m c] 25))
  have h4' : (m : Int) ≤ 20 := by omega
  have hE := Lib.hid (fun w' (hb : Below w.heap.size w w') => Encode_yes gn (a, .slice A m c, os) w' hgn (hx.keep hb) hl (by show os.length ≤ 800; omega) hr)
  have hel : Hid ((encP gn (a, os)).length = m + 2) := by show _ = _; rw [encP_len]; show os.length + 2 = _; rw [hm]
  have hWe := encP_WL (gn := gn) hr hl
  have hBd := Lib.hid (fun k b h1 (h2 : k < 64 * (m + 2)) h3 => burst_dec (gn := gn) hr k b h1 (by show k < 64 * (os.length + 2); rw [hm]; exact h2) h3)
  have hxh := Lib.hid hx
  have hmh := Lib.hid hm
  replace hE : Hid (∀ w', Below w.heap.size w w' → Calls _ _ _ _ (fun e w'' => ∃ v, e = .returned (.tuple #[v, .int .i64 0]) ∧ KL .u64 w'' v (encP gn (a, os)) ∧ Below _ _ w'')) := hE.out
  simp only [eV, eE] at hE
  generalize encP gn (a, os) = en at *
  have hFL := Lib.hid (fun k b => show (flipL en k b).length = m + 2 from by rw [flip_len]; exact hel.out)
  have hFW := Lib.hid (fun k b => flip_WL k b hWe)
  have hBU := Lib.hid (fun k i => flip_skip en B k i)
  have hBS := Lib.hid (fun k i => flip_step en B k i)
  have hF0 := Lib.hid (fun k (hk : k < 64 * (m + 2)) => show flipL en k (B % 2 ^ 0) = en from by
    rw [Nat.pow_zero, Nat.mod_one]
    exact (flip_same en k 0 (by rw [hel.out]; exact hk)).2 (by simp))
  obtain ⟨L, hL⟩ : ∃ L, m + 2 = L := ⟨_, rfl⟩
  obtain ⟨nn, hnn⟩ : ∃ nn, 64 * (m + 1) = nn := ⟨_, rfl⟩
  have hnn1 : 128 ≤ nn ∨ m = 0 := by omega
  obtain ⟨k, hk⟩ : ∃ k, at' % nn = k := ⟨_, rfl⟩
  have hnn0 : 64 ≤ nn := by omega
  have hkn : k < nn := by rw [← hk]; exact Nat.mod_lt _ (by omega)
  have hkL : 64 + k < 64 * (m + 2) := by omega
  have fL : (L : Int) - 1 = (m : Int) + 1 := by omega
  have fL1 : IntKind.i64.wrap ((m : Int) + 1) = (m : Int) + 1 := by rw [IntKind.wrap_i64]; omega
  have fN : 64 * ((m : Int) + 1) = (nn : Int) := by omega
  have fN1 : IntKind.i64.wrap (nn : Int) = (nn : Int) := by rw [IntKind.wrap_i64]; omega
  have fN2 : ¬ ((nn : Int) < 64) := by omega
  have fA : IntKind.i64.wrap (at' : Int) = (at' : Int) := by rw [IntKind.wrap_i64]; omega
  have fK : (at' : Int) % (nn : Int) = (k : Int) := by rw [← hk]; omega
  have fK1 : (at' : Int).tmod (nn : Int) = (k : Int) := by rw [Int.tmod_eq_emod_of_nonneg (by omega)]; exact fK
  have fK2 : ((nn : Int) == 0) = false := by rw [beq_eq_false_iff_ne]; omega
  have fK3 : ¬ ((nn : Int) = 0) := by omega
  have fK4 : IntKind.i64.wrap (k : Int) = (k : Int) := by rw [IntKind.wrap_i64]; omega
  have fK5 : IntKind.u16.wrap (at' : Int) = (at' : Int) := by rw [IntKind.wrap_u16]; omega
  rw [hL] at hel hFL
  replace hL := Lib.hid hL
  replace hnn := Lib.hid hnn
  replace hWe := Lib.hid hWe
  obtain ⟨x0, x1⟩ := hX0.c2
  clear hr hx hm hl hk hnn1
  go_enter Try.func8, Try.ntmps8
  go_wp2_with (first
    | (go_at_call 10; refine hAw.mono ?_; rintro e w1 ⟨rfl, hb⟩
       have hX1 := hX0.keep hb
       have hB1 := hb0.trans (hb.mono hb0.size)
       have h1 := hE.out w1 hB1
       obtain ⟨x0, x1⟩ := hX1.c2
       clear hAw hX0 hb0 hb)
    | (go_at_call 11; refine h1.mono ?_; rintro e w2 ⟨v2, rfl, hK2, hb⟩
       have hX2 := hX1.keep hb
       have hB2 := hB1.trans (hb.mono hB1.size)
       obtain ⟨A2, c2, rfl, _⟩ := hK2.form hel.out
       have hKb := Lib.hid (fun w' (hb : Below w2.heap.size w2 w') => hK2.keep hb)
       have hXb := Lib.hid (fun w' (hb : Below w2.heap.size w2 w') => hX2.keep hb)
       have hXl := Lib.hid hX2.lt
       obtain ⟨v3, w3, hr3, hO3, hb3⟩ := newW hK2 (by rw [hel.out]; have := hL.out; omega)
       obtain ⟨A3, c3, hv3, hA3⟩ := hO3.form
       rw [hel.out] at hv3 hA3
       subst hv3
       have hX3 := hX2.keep hb3
       have hb23 := Lib.hid hb3
       have hB2s := Lib.hid hB2.size
       have hB3 := hB2.trans (hb3.mono hB2.size)
       have hK3 := hK2.keep hb3
       obtain ⟨x0, x1⟩ := hX3.c2
       clear h1 hX1 hB1 hb hX2 hb3 hK2)
    | (at_builtin; refine wpList_append_run rfl _ _ 23 rfl _ _ _ rfl rfl hr3 ?_; clear hr3))
  have hO0 : OwnU w3 w2.heap.size (.slice A3 L c3) (flipL en (64 + k) (B % 2 ^ 0)) := by rw [hF0.out (64 + k) hkL]; exact hO3
  have hB32 : w2.heap.size ≤ w3.heap.size := by
    obtain ⟨g, e, h1, h2⟩ := hA3 (by have := hL.out; omega)
    omega
  obtain ⟨g, rfl, hg2, hg3⟩ := hA3 (by have := hL.out; omega)
  have hX2b : w.heap.size < w2.heap.size := by have := hXl.out; omega
  have hKw := Lib.hid (fun w' (hb : Below w2.heap.size w3 w') => show KL .u64 w' (.slice A2 L c2) en from hKb.out w' (hb23.out.trans hb))
  have hXw := Lib.hid (fun w' (hb : Below w2.heap.size w3 w') => show Bk w' w.heap.size (.int .i64 a) (.slice A m c) from hXb.out w' (hb23.out.trans hb))
  clear hA3 hF0 hO3
  go_loopw [15] (fun iv wr => ∃ i : Nat, i ≤ 32 ∧ k + i ≤ nn ∧ iv = .int .i64 i ∧ OwnU wr w2.heap.size (.slice (some ⟨g, 0, none⟩) L c3) (flipL en (64 + k) (B % 2 ^ i)) ∧ Below w2.heap.size w3 wr) (fun iv _ => 33 - (intOf iv).toNat)
  case atStart => exact ⟨0, by omega, by omega, rfl, hO0, Below.refl _ _⟩
  case round =>
    clear hO0 x0 x1
    obtain ⟨i, hi32, hin, rfl, hown, hBw⟩ := hrel
    by_cases h32 : i < 32
    · have h32' : (i : Int) < 32 := by omega
      have hki1 : IntKind.i64.wrap ((k : Int) + (i : Int)) = (k : Int) + (i : Int) := by rw [IntKind.wrap_i64]; omega
      by_cases hkn2 : k + i < nn
      · have hkn' : (k : Int) + (i : Int) < (nn : Int) := by omega
        have hbd : B / 2 ^ i ≤ B := Nat.div_le_self _ _
        have T : (bits .and .u32 ((B : Int) / 2 ^ i) 1 == 1) = B.testBit i := by
          rw [pow_cast, show (B : Int) / ((2 ^ i : Nat) : Int) = ((B / 2 ^ i : Nat) : Int) by simp, show (1 : Int) = ((1 : Nat) : Int) from rfl, u32_and_nat _ 1 (by omega) (by omega), Nat.and_one_is_mod, Nat.testBit_eq_decide_div_mod_eq]
          have hz : B / 2 ^ i % 2 = 0 ∨ B / 2 ^ i % 2 = 1 := by omega
          rcases hz with hz | hz <;> rw [hz] <;> decide
        clear hbd
        cases hbit : B.testBit i
        · rw [hbit] at T
          have hsk := hBU.out (64 + k) i hbit
          rw [← hsk] at hown
          clear hsk
          go_wp2_with fail
          go_roundw
          case rel => exact ⟨i + 1, by omega, by omega, by go_num, hown, hBw⟩
          case measure => simp [intOf]; omega
        · rw [hbit] at T
          have hsk := Lib.hid (hBS.out (64 + k) i hbit (by rw [hel.out]; have := hL.out; have := hnn.out; omega))
          generalize hmm : 64 + k + i = mm at hsk
          have hfl := hFL.out (64 + k) (B % 2 ^ i)
          have hwl := hFW.out (64 + k) (B % 2 ^ i)
          have hqL : mm / 64 < L := by have := hL.out; have := hnn.out; omega
          have hxl := hwl.at (mm / 64) (by rw [hfl]; exact hqL)
          obtain ⟨d0, d1⟩ := hown.cell (i := mm / 64) hfl hqL
          have hdiv : ((k : Int) + (i : Int)).tdiv 64 = ((mm / 64 : Nat) : Int) - 1 := by rw [Int.tdiv_eq_ediv_of_nonneg (by omega)]; omega
          have hdiv2 : ((k : Int) + (i : Int)) / 64 = ((mm / 64 : Nat) : Int) - 1 := by omega
          have hrem : ((k : Int) + (i : Int)).tmod 64 = ((mm % 64 : Nat) : Int) := by rw [Int.tmod_eq_emod_of_nonneg (by omega)]; omega
          have hrem2 : ((k : Int) + (i : Int)) % 64 = ((mm % 64 : Nat) : Int) := by omega
          have ht1 : mm % 64 < 64 := by omega
          have hq1 : 1 ≤ mm / 64 := by omega
          generalize hq0 : mm / 64 = q at *
          generalize ht0 : mm % 64 = t at *
          clear hq0 ht0
          have hq2 : (q : Int) < (L : Int) := by omega
          have hq3 : 1 + ((q : Int) - 1) = (q : Int) := by omega
          have hwq0 : IntKind.i64.wrap ((q : Int) - 1) = (q : Int) - 1 := by rw [IntKind.wrap_i64]; have := hL.out; omega
          have hwq : IntKind.i64.wrap (q : Int) = (q : Int) := by rw [IntKind.wrap_i64]; have := hL.out; omega
          have hwt : IntKind.i64.wrap (t : Int) = (t : Int) := by rw [IntKind.wrap_i64]; omega
          have hp := pow_lt64 (k := t) ht1
          have hwr : IntKind.u64.wrap ((2 : Int) ^ t) = ((2 ^ t : Nat) : Int) := by rw [IntKind.wrap_u64, pow_cast]; generalize 2 ^ t = y at *; omega
          generalize hX : (flipL en (64 + k) (B % 2 ^ i)).getD q 0 = X at *
          have eX : bits .xor .u64 (X : Int) (IntKind.u64.wrap ((2 : Int) ^ t)) = ((X ^^^ 2 ^ t : Nat) : Int) := by rw [hwr]; exact u64_xor_nat X _ hxl (by omega)
          have hBd2 : Below wr.heap.size wr wr.drew := (Below.refl _ _).drew
          have hO2 := (hown.keep hBd2).set hfl hqL (y := X ^^^ 2 ^ t)
          rw [← hsk.out] at hO2
          have hB2 := (hBw.trans (hBd2.mono (Nat.le_trans hB32 hBw.size))).setCell (p := ⟨g, q, none⟩) hg2 (.int .u64 ((X ^^^ 2 ^ t : Nat) : Int))
          replace hmm := Lib.hid hmm
          replace hsk := Lib.hid hsk.out
          clear hX hwr hp hfl hwl hqL hown hBd2
          go_wp2_with fail
          refine wp_region_tail (S := (fun w' => w'.cell? ⟨g, q, none⟩ = some (.int .u64 (X : Nat)) ∧ w'.frozen? ⟨g, q, none⟩ = false)) (n := 21) (by kernel_rfl) ?_ (fun hHeld hInv => ?_) (by decide)
          · (try dsimp only)
            exact ⟨d0, d1⟩
          refine takeS 0 (v := ?_) (tailAt (by kernel_rfl)) hInv (by decide) rfl (by kernel_rfl) (by kernel_rfl) (by kernel_rfl) (fun _ _ _ h => h) (by rfl) (by assumption) ?_ (fun hInv2 => ?_)
          rotate_left
          · (intro w hSw; (try dsimp only at hSw); (try go_split_ands); go_simp <;> with_reducible rfl)
          clear hInv
          have hInv := hInv2
          clear hInv2
          try simp only [Act.put, List.setIfInBounds_toArray, List.set_cons_zero, List.set_cons_succ] at hInv ⊢
          refine takeS 1 (v := ?_) (tailAt (by kernel_rfl)) hInv (by decide) rfl (by kernel_rfl) (by kernel_rfl) (by kernel_rfl) (fun _ _ _ h => h) (by rfl) (by assumption) ?_ (fun hInv2 => ?_)
          rotate_left
          · (intro w hSw; (try dsimp only at hSw); (try go_split_ands); go_simp <;> with_reducible rfl)
          clear hInv
          have hInv := hInv2
          clear hInv2
          try simp only [Act.put, List.setIfInBounds_toArray, List.set_cons_zero, List.set_cons_succ] at hInv ⊢
          refine takeS 2 (v := ?_) (tailAt (by kernel_rfl)) hInv (by decide) rfl (by kernel_rfl) (by kernel_rfl) (by kernel_rfl) (fun _ _ _ h => h) (by rfl) (by assumption) ?_ (fun hInv2 => ?_)
          rotate_left
          · (intro w hSw; (try dsimp only at hSw); (try go_split_ands); go_simp <;> with_reducible rfl)
          clear hInv
          have hInv := hInv2
          clear hInv2
          try simp only [Act.put, List.setIfInBounds_toArray, List.set_cons_zero, List.set_cons_succ] at hInv ⊢
          refine takeS 3 (v := ?_) (tailAt (by kernel_rfl)) hInv (by decide) rfl (by kernel_rfl) (by kernel_rfl) (by kernel_rfl) (fun _ _ _ h => h) (by rfl) (by assumption) ?_ (fun hInv2 => ?_)
          rotate_left
          · (intro w hSw; (try dsimp only at hSw); (try go_split_ands); go_simp <;> with_reducible rfl)
          clear hInv
          have hInv := hInv2
          clear hInv2
          try simp only [Act.put, List.setIfInBounds_toArray, List.set_cons_zero, List.set_cons_succ] at hInv ⊢
          refine takeS 4 (v := ?_) (tailAt (by kernel_rfl)) hInv (by decide) rfl (by kernel_rfl) (by kernel_rfl) (by kernel_rfl) (fun _ _ _ h => h) (by rfl) (by assumption) ?_ (fun hInv2 => ?_)
          rotate_left
          · (intro w hSw; (try dsimp only at hSw); (try go_split_ands); go_simp <;> with_reducible rfl)
          clear hInv
          have hInv := hInv2
          clear hInv2
          try simp only [Act.put, List.setIfInBounds_toArray, List.set_cons_zero, List.set_cons_succ] at hInv ⊢
          refine takeS 5 (v := ?_) (tailAt (by kernel_rfl)) hInv (by decide) rfl (by kernel_rfl) (by kernel_rfl) (by kernel_rfl) (fun _ _ _ h => h) (by rfl) (by assumption) ?_ (fun hInv2 => ?_)
          rotate_left
          · (intro w hSw; (try dsimp only at hSw); (try go_split_ands); go_simp <;> with_reducible rfl)
          clear hInv
          have hInv := hInv2
          clear hInv2
          try simp only [Act.put, List.setIfInBounds_toArray, List.set_cons_zero, List.set_cons_succ] at hInv ⊢
          refine takeS 6 (v := ?_) (tailAt (by kernel_rfl)) hInv (by decide) rfl (by kernel_rfl) (by kernel_rfl) (by kernel_rfl) (fun _ _ _ h => h) (by rfl) (by assumption) ?_ (fun hInv2 => ?_)
          rotate_left
          · (intro w hSw; (try dsimp only at hSw); (try go_split_ands); go_simp <;> with_reducible rfl)
          clear hInv
          have hInv := hInv2
          clear hInv2
          try simp only [Act.put, List.setIfInBounds_toArray, List.set_cons_zero, List.set_cons_succ] at hInv ⊢
          refine takeS 7 (v := ?_) (tailAt (by kernel_rfl)) hInv (by decide) rfl (by kernel_rfl) (by kernel_rfl) (by kernel_rfl) (fun _ _ _ h => h) (by rfl) (by assumption) ?_ (fun hInv2 => ?_)
          rotate_left
          · (intro w hSw; (try dsimp only at hSw); (try go_split_ands); go_simp <;> with_reducible rfl)
          clear hInv
          have hInv := hInv2
          clear hInv2
          try simp only [Act.put, List.setIfInBounds_toArray, List.set_cons_zero, List.set_cons_succ] at hInv ⊢
          refine takeS 8 (v := ?_) (tailAt (by kernel_rfl)) hInv (by decide) rfl (by kernel_rfl) (by kernel_rfl) (by kernel_rfl) (fun _ _ _ h => h) (by rfl) (by assumption) ?_ (fun hInv2 => ?_)
          rotate_left
          · (intro w hSw; (try dsimp only at hSw); (try go_split_ands); go_simp <;> with_reducible rfl)
          clear hInv
          have hInv := hInv2
          clear hInv2
          try simp only [Act.put, List.setIfInBounds_toArray, List.set_cons_zero, List.set_cons_succ] at hInv ⊢
          refine takeS 9 (v := ?_) (tailAt (by kernel_rfl)) hInv (by decide) rfl (by kernel_rfl) (by kernel_rfl) (by kernel_rfl) (fun _ _ _ h => h) (by rfl) (by assumption) ?_ (fun hInv2 => ?_)
          rotate_left
          · (intro w hSw; (try dsimp only at hSw); (try go_split_ands); go_simp <;> with_reducible rfl)
          clear hInv
          have hInv := hInv2
          clear hInv2
          try simp only [Act.put, List.setIfInBounds_toArray, List.set_cons_zero, List.set_cons_succ] at hInv ⊢
          refine takeS 10 (v := ?_) (tailAt (by kernel_rfl)) hInv (by decide) rfl (by kernel_rfl) (by kernel_rfl) (by kernel_rfl) (fun _ _ _ h => h) (by rfl) (by assumption) ?_ (fun hInv2 => ?_)
          rotate_left
          · (intro w hSw; (try dsimp only at hSw); (try go_split_ands); go_simp <;> with_reducible rfl)
          clear hInv
          have hInv := hInv2
          clear hInv2
          try simp only [Act.put, List.setIfInBounds_toArray, List.set_cons_zero, List.set_cons_succ] at hInv ⊢
          refine takeS 11 (v := ?_) (tailAt (by kernel_rfl)) hInv (by decide) rfl (by kernel_rfl) (by kernel_rfl) (by kernel_rfl) (fun _ _ _ h => h) (by rfl) (by assumption) ?_ (fun hInv2 => ?_)
          rotate_left
          · (intro w hSw; (try dsimp only at hSw); (try go_split_ands); go_simp <;> with_reducible rfl)
          clear hInv
          have hInv := hInv2
          clear hInv2
          try simp only [Act.put, List.setIfInBounds_toArray, List.set_cons_zero, List.set_cons_succ] at hInv ⊢
          refine takeS 12 (v := ?_) (tailAt (by kernel_rfl)) hInv (by decide) rfl (by kernel_rfl) (by kernel_rfl) (by kernel_rfl) (fun _ _ _ h => h) (by rfl) (by assumption) ?_ (fun hInv2 => ?_)
          rotate_left
          · (intro w hSw; (try dsimp only at hSw); (try go_split_ands); go_simp <;> with_reducible rfl)
          clear hInv
          have hInv := hInv2
          clear hInv2
          try simp only [Act.put, List.setIfInBounds_toArray, List.set_cons_zero, List.set_cons_succ] at hInv ⊢
          refine takeS 13 (v := ?_) (tailAt (by kernel_rfl)) hInv (by decide) rfl (by kernel_rfl) (by kernel_rfl) (by kernel_rfl) (fun _ _ _ h => h) (by rfl) (by assumption) ?_ (fun hInv2 => ?_)
          rotate_left
          · (intro w hSw; (try dsimp only at hSw); (try go_split_ands); go_simp <;> with_reducible rfl)
          clear hInv
          have hInv := hInv2
          clear hInv2
          try simp only [Act.put, List.setIfInBounds_toArray, List.set_cons_zero, List.set_cons_succ] at hInv ⊢
          refine takeS 14 (v := ?_) (tailAt (by kernel_rfl)) hInv (by decide) rfl (by kernel_rfl) (by kernel_rfl) (by kernel_rfl) (fun _ _ _ h => h) (by rfl) (by assumption) ?_ (fun hInv2 => ?_)
          rotate_left
          · (intro w hSw; (try dsimp only at hSw); (try go_split_ands); go_simp <;> with_reducible rfl)
          clear hInv
          have hInv := hInv2
          clear hInv2
          try simp only [Act.put, List.setIfInBounds_toArray, List.set_cons_zero, List.set_cons_succ] at hInv ⊢
          refine takeS 15 (v := ?_) (tailAt (by kernel_rfl)) hInv (by decide) rfl (by kernel_rfl) (by kernel_rfl) (by kernel_rfl) (fun _ _ _ h => h) (by rfl) (by assumption) ?_ (fun hInv2 => ?_)
          rotate_left
          · (intro w hSw; (try dsimp only at hSw); (try go_split_ands); go_simp <;> with_reducible rfl)
          clear hInv
          have hInv := hInv2
          clear hInv2
          try simp only [Act.put, List.setIfInBounds_toArray, List.set_cons_zero, List.set_cons_succ] at hInv ⊢
          refine takeS 16 (v := ?_) (tailAt (by kernel_rfl)) hInv (by decide) rfl (by kernel_rfl) (by kernel_rfl) (by kernel_rfl) (fun _ _ _ h => h) (by rfl) (by assumption) ?_ (fun hInv2 => ?_)
          rotate_left
          · (intro w hSw; (try dsimp only at hSw); (try go_split_ands); go_simp <;> with_reducible rfl)
          clear hInv
          have hInv := hInv2
          clear hInv2
          try simp only [Act.put, List.setIfInBounds_toArray, List.set_cons_zero, List.set_cons_succ] at hInv ⊢
          refine takeS 17 (v := ?_) (tailAt (by kernel_rfl)) hInv (by decide) rfl (by kernel_rfl) (by kernel_rfl) (by kernel_rfl) (fun _ _ _ h => h) (by rfl) (by assumption) ?_ (fun hInv2 => ?_)
          rotate_left
          · (intro w hSw; (try dsimp only at hSw); (try go_split_ands); go_simp <;> with_reducible rfl)
          clear hInv
          have hInv := hInv2
          clear hInv2
          try simp only [Act.put, List.setIfInBounds_toArray, List.set_cons_zero, List.set_cons_succ] at hInv ⊢
          refine takeS 18 (v := ?_) (tailAt (by kernel_rfl)) hInv (by decide) rfl (by kernel_rfl) (by kernel_rfl) (by kernel_rfl) (fun _ _ _ h => h) (by rfl) (by assumption) ?_ (fun hInv2 => ?_)
          rotate_left
          · (intro w hSw; (try dsimp only at hSw); (try go_split_ands); go_simp <;> with_reducible rfl)
          clear hInv
          have hInv := hInv2
          clear hInv2
          try simp only [Act.put, List.setIfInBounds_toArray, List.set_cons_zero, List.set_cons_succ] at hInv ⊢
          refine takeS 19 (v := ?_) (tailAt (by kernel_rfl)) hInv (by decide) rfl (by kernel_rfl) (by kernel_rfl) (by kernel_rfl) (fun _ _ _ h => h) (by rfl) (by assumption) ?_ (fun hInv2 => ?_)
          rotate_left
          · (intro w hSw; (try dsimp only at hSw); (try go_split_ands); go_simp <;> with_reducible rfl)
          clear hInv
          have hInv := hInv2
          clear hInv2
          try simp only [Act.put, List.setIfInBounds_toArray, List.set_cons_zero, List.set_cons_succ] at hInv ⊢
          refine takeS 20 (v := ?_) (tailAt (by kernel_rfl)) hInv (by decide) rfl (by kernel_rfl) (by kernel_rfl) (by kernel_rfl) (fun _ _ _ h => h) (by rfl) (by assumption) ?_ (fun hInv2 => ?_)
          rotate_left
          · (intro w hSw; (try dsimp only at hSw); (try go_split_ands); go_simp <;> with_reducible rfl)
          clear hInv
          have hInv := hInv2
          clear hInv2
          try simp only [Act.put, List.setIfInBounds_toArray, List.set_cons_zero, List.set_cons_succ] at hInv ⊢
          refine lastS 21 rfl (by decide) (by kernel_rfl) (fun K hK => ?_)
          go_simp
          refine hK.out _ _ ?_
          clear hK K
          refine wpAnyS_done (by kernel_rfl) ?_ _
          clear hInv hHeld
          go_wp2_with fail
          go_roundw
          case rel => exact ⟨i + 1, by omega, by omega, by go_num, hO2, hB2⟩
          case measure => simp [intOf]; omega
      · have hend : k + i = nn := by omega
        have hkn' : ¬ ((k : Int) + (i : Int) < (nn : Int)) := by omega
        have hbl : B % 2 ^ i < 4294967296 := Nat.lt_of_le_of_lt (Nat.mod_le _ _) hB
        have hdc := hBd.out (64 + k) (B % 2 ^ i) (by omega) hkL hbl
        have hfl := hFL.out (64 + k) (B % 2 ^ i)
        have hwl := hFW.out (64 + k) (B % 2 ^ i)
        clear hBU hBS hbl hBd hFL hFW
        generalize flipL en (64 + k) (B % 2 ^ i) = ys at *
        have hBr := hB3.trans (hBw.mono hB2s.out)
        have h2 := Decode_any gn _ ys wr hgn hwl (by rw [hfl]; have := hL.out; omega) hown.kl
        have hKr := hKw.out wr hBw
        have hXr := hXw.out wr hBw
        by_cases he : ys = en
        · rw [hdc, if_pos he] at h2
          simp only [Option.isSome_some, Option.getD_some] at h2
          have hdd : decide (en = ys) = true := decide_eq_true he.symm
          replace hdd := Lib.hid hdd
          clear hdc he
          go_wp2_with (first
            | (go_at_call 16; refine h2.mono ?_; rintro e w4 ⟨v4, rfl, hN4, hb⟩
               have hB4 := hBr.trans (hb.mono hBr.size)
               have hWd := words_any _ _ en ys w4 (by rw [hel.out]; have := hL.out; omega) (hKr.keep hb) (hown.keep hb).kl
               rw [hdd.out] at hWd
               have hX5 := hXr.keep hb
               clear h2 hb)
            | (go_at_call 13; refine hWd.mono ?_; rintro e w5 ⟨rfl, hb⟩
               have hB5 := hB4.trans (hb.mono hB4.size)
               have hX6 := hX5.keep hb
               obtain ⟨x0, x1⟩ := hX6.c2
               have hbL : Below w5.heap.size w5 (w5.alloc (.cells #[.int .i64 a, .slice A m c] (25 : Nat))) := (Below.refl _ _).alloc (Nat.le_refl _) _
               have hSm := same_any v4 _ [(a, os)] [(a, os)] _ (by simp) (fun x hx => by rw [List.mem_singleton] at hx; subst hx; show os.length ≤ _; rw [hmh.out]; omega) ((hN4.keep hb).keep hbL) (EN.one (hxh.out.keep hB5))
               rw [decide_eq_true rfl] at hSm
               have hB6 := hB5.trans (hbL.mono hB5.size)
               clear hWd hb hB4 hN4 hX5)
            | (go_at_call 18; refine hSm.mono ?_; rintro e w7 ⟨rfl, hb⟩
               have hB7 := hB6.trans (hb.mono hB6.size)
               clear hSm hb hB6))
          go_ret
          exact ⟨ret_b (by simp), hB7⟩
        · rw [hdc, if_neg he] at h2
          simp only [Option.isSome_none, Option.getD_none] at h2
          have hdd : decide (en = ys) = false := decide_eq_false (fun q => he q.symm)
          replace hdd := Lib.hid hdd
          clear hdc he
          go_wp2_with (first
            | (go_at_call 16; refine h2.mono ?_; rintro e w4 ⟨v4, rfl, hN4, hb⟩
               have hB4 := hBr.trans (hb.mono hBr.size)
               have hWd := words_any _ _ en ys w4 (by rw [hel.out]; have := hL.out; omega) (hKr.keep hb) (hown.keep hb).kl
               rw [hdd.out] at hWd
               clear h2 hb)
            | (go_at_call 13; refine hWd.mono ?_; rintro e w5 ⟨rfl, hb⟩
               have hB5 := hB4.trans (hb.mono hB4.size)
               clear hWd hb hB4))
          go_ret
          exact ⟨ret_b (by simp), hB5⟩
    · have h32' : ¬ ((i : Int) < 32) := by omega
      have hbl : B % 2 ^ i < 4294967296 := Nat.lt_of_le_of_lt (Nat.mod_le _ _) hB
      have hdc := hBd.out (64 + k) (B % 2 ^ i) (by omega) hkL hbl
      have hfl := hFL.out (64 + k) (B % 2 ^ i)
      have hwl := hFW.out (64 + k) (B % 2 ^ i)
      clear hBU hBS hbl hBd hFL hFW
      generalize flipL en (64 + k) (B % 2 ^ i) = ys at *
      have hBr := hB3.trans (hBw.mono hB2s.out)
      have h2 := Decode_any gn _ ys wr hgn hwl (by rw [hfl]; have := hL.out; omega) hown.kl
      have hKr := hKw.out wr hBw
      have hXr := hXw.out wr hBw
      by_cases he : ys = en
      · rw [hdc, if_pos he] at h2
        simp only [Option.isSome_some, Option.getD_some] at h2
        have hdd : decide (en = ys) = true := decide_eq_true he.symm
        replace hdd := Lib.hid hdd
        clear hdc he
        go_wp2_with (first
          | (go_at_call 16; refine h2.mono ?_; rintro e w4 ⟨v4, rfl, hN4, hb⟩
             have hB4 := hBr.trans (hb.mono hBr.size)
             have hWd := words_any _ _ en ys w4 (by rw [hel.out]; have := hL.out; omega) (hKr.keep hb) (hown.keep hb).kl
             rw [hdd.out] at hWd
             have hX5 := hXr.keep hb
             clear h2 hb)
          | (go_at_call 13; refine hWd.mono ?_; rintro e w5 ⟨rfl, hb⟩
             have hB5 := hB4.trans (hb.mono hB4.size)
             have hX6 := hX5.keep hb
             obtain ⟨x0, x1⟩ := hX6.c2
             have hbL : Below w5.heap.size w5 (w5.alloc (.cells #[.int .i64 a, .slice A m c] (25 : Nat))) := (Below.refl _ _).alloc (Nat.le_refl _) _
             have hSm := same_any v4 _ [(a, os)] [(a, os)] _ (by simp) (fun x hx => by rw [List.mem_singleton] at hx; subst hx; show os.length ≤ _; rw [hmh.out]; omega) ((hN4.keep hb).keep hbL) (EN.one (hxh.out.keep hB5))
             rw [decide_eq_true rfl] at hSm
             have hB6 := hB5.trans (hbL.mono hB5.size)
             clear hWd hb hB4 hN4 hX5)
          | (go_at_call 18; refine hSm.mono ?_; rintro e w7 ⟨rfl, hb⟩
             have hB7 := hB6.trans (hb.mono hB6.size)
             clear hSm hb hB6))
        go_ret
        exact ⟨ret_b (by simp), hB7⟩
      · rw [hdc, if_neg he] at h2
        simp only [Option.isSome_none, Option.getD_none] at h2
        have hdd : decide (en = ys) = false := decide_eq_false (fun q => he q.symm)
        replace hdd := Lib.hid hdd
        clear hdc he
        go_wp2_with (first
          | (go_at_call 16; refine h2.mono ?_; rintro e w4 ⟨v4, rfl, hN4, hb⟩
             have hB4 := hBr.trans (hb.mono hBr.size)
             have hWd := words_any _ _ en ys w4 (by rw [hel.out]; have := hL.out; omega) (hKr.keep hb) (hown.keep hb).kl
             rw [hdd.out] at hWd
             clear h2 hb)
          | (go_at_call 13; refine hWd.mono ?_; rintro e w5 ⟨rfl, hb⟩
             have hB5 := hB4.trans (hb.mono hB4.size)
             clear hWd hb hB4))
        go_ret
        exact ⟨ret_b (by simp), hB5⟩
set_option maxRecDepth 10000 in
set_option maxHeartbeats 2000000 in
theorem undoBursts (gn : Nat) (x : Ex) (at' B : Nat) (w : World) (hgn : gn < 18446744073709551616) (hx : KL .u64 w x.2.1 x.2.2) (hl : WL x.2.2) (hat : at' < 65536) (hB : B < 4294967296) :
    Calls Try.prog 8 #[.int .u64 (gn : Nat), eV x, .int .u16 (at' : Nat), .int .u32 (B : Nat)] w fun e w' => e = .returned (.bool true) ∧ Below w.heap.size w w' := by
  obtain ⟨a, v, os⟩ := x
  obtain ⟨m, hm⟩ : ∃ m, os.length = m := ⟨_, rfl⟩
  obtain ⟨A, c, hv, _⟩ := hx.form hm
  simp only [] at hv hl
  subst hv
  simp only [eV, eE]
  have hX0 := Bk.new w (.int .i64 a) (.slice A m c)
  have hb0 : Below w.heap.size w (w.alloc (.cells #[.int .i64 a, .slice A m c] 25)) := (Below.refl _ _).alloc (Nat.le_refl _) _
  have hAw := awake13 (w.alloc (.cells #[.int .i64 a, .slice A m c] 25))
  by_cases h4 : 20 < m
  · have h4' : (20 : Int) < (m : Int) := by omega
    obtain ⟨x0, x1⟩ := hX0.c2
    go_enter Try.func8, Try.ntmps8
    go_wp2_with (first
      | (go_at_call 10; refine hAw.mono ?_; rintro e w1 ⟨rfl, hb⟩
         have hX1 := hX0.keep hb
         have hB1 := hb0.trans (hb.mono hb0.size)
         obtain ⟨x0, x1⟩ := hX1.c2
         clear hAw hX0 hb0 hb))
    go_ret
    exact ⟨rfl, hB1⟩
  cases hr : rightP (a, os) with
  | true => exact undoBursts_yes gn a A m c os at' B w hgn hx hm hl (by omega) hat hB hr
  | false =>
    have h4' : (m : Int) ≤ 20 := by omega
    have hE := Lib.hid (fun w' (hb : Below w.heap.size w w') => Encode_no (gn : Nat) (a, .slice A m c, os) w' (hx.keep hb) hr)
    simp only [eV, eE] at hE
    obtain ⟨x0, x1⟩ := hX0.c2
    clear hr hx
    go_enter Try.func8, Try.ntmps8
    go_wp2_with (first
      | (go_at_call 10; refine hAw.mono ?_; rintro e w1 ⟨rfl, hb⟩
         have hX1 := hX0.keep hb
         have hB1 := hb0.trans (hb.mono hb0.size)
         have h1 := hE.out w1 hB1
         obtain ⟨x0, x1⟩ := hX1.c2
         clear hAw hX0 hb0 hb)
      | (go_at_call 11; refine h1.mono ?_; rintro e w2 ⟨rfl, hb⟩
         have hB2 := hB1.trans (hb.mono hB1.size)
         clear h1 hb hB1))
    go_ret
    exact ⟨rfl, hB2⟩
end Go.Proofs.Ytkmfncnfpneekaa
