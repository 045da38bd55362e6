/-
  Package oid: OidBack.
-/
import Derived.Test.YtdblioggncnapaaDoorOd9
set_option linter.unusedVariables false
set_option linter.unusedSimpArgs false
set_option maxRecDepth 100000
namespace Go.Proofs.YtdblioggncnapaaDoor
open Go.RowKit Go.Lib
theorem and16 (x : Int) : ∃ t : Nat, t < 65536 ∧ bits .and .i64 x 65535 = (t : Int) := by
  have h : (BitVec.ofInt 64 x &&& BitVec.ofInt 64 65535).toNat < 65536 := by
    rw [BitVec.toNat_and]
    exact Nat.lt_of_le_of_lt Nat.and_le_right (by decide)
  refine ⟨(BitVec.ofInt 64 x &&& BitVec.ofInt 64 65535).toNat, h, ?_⟩
  show IntKind.i64.wrap ((BitVec.ofInt 64 x &&& BitVec.ofInt 64 65535).toNat : Int) = _
  rw [IntKind.wrap_i64]; omega
/-- the header's block, the table, and what was there before -/
def Q1 (w w' : World) (x y z : Int) : Prop := C3 w' w.heap.size (.int .i64 x) (.int .i64 y) (.int .u64 z) ∧ Tb w' ∧ Below w.heap.size w w' ∧ w.heap.size ≤ w'.heap.size
theorem Q1.keep {w w1 w2 : World} {x y z : Int} (h : Q1 w w1 x y z) (hb : Below w1.heap.size w1 w2) : Q1 w w2 x y z := by
  obtain ⟨q0, qT, qB, qS⟩ := h
  exact ⟨q0.keep hb, qT.next hb, qB.trans (hb.mono qS), Nat.le_trans qS hb.size⟩
theorem below1 (w : World) (o : Obj) : Below w.heap.size w (w.alloc o) := (Below.refl _ _).alloc (Nat.le_refl _) _
theorem parse_at {s : ByteArray} {l : Option (Nat × Nat × Nat)} (hs : s.size < 4294967281) (h : parseO s.data.toList = l) (w : World) :
    Calls Tryd.prog 16 #[.string s] w fun e w' => e = .returned (.tuple #[pV l, .bool l.isSome]) ∧ Below w.heap.size w w' := by
  have c := parse_any s w hs
  rw [h] at c; exact c
theorem textB_len {a t n : Nat} (ha : a < 18446744073709551616) (ht : t < 18446744073709551616) (hn : n < 18446744073709551616) : (textB a t n).size < 4294967281 := by
  unfold textB
  rw [if_pos (by omega)]
  have h1 := dec_len ha
  have h2 := dec_len ht
  have h3 := dec_len hn
  show (textL a t n).toArray.size < _
  rw [List.size_toArray]
  unfold textL
  simp only [List.length_append, List.length_cons]
  omega
theorem textB_list (a t n : Nat) : (textB a t n).data.toList = textL a t n := by
  unfold textB
  rw [if_pos (by omega)]
  rfl
theorem textB_is {a t n : Nat} {s : ByteArray} (h : textL a t n = s.data.toList) : textB a t n = s := by
  apply ByteArray.ext
  apply Array.ext'
  rw [textB_list, h]
set_option maxHeartbeats 1000000 in
theorem oidBack_long (h0 h1 h2 : Int) (a : Nat) (s : ByteArray) (w : World) (ht : Tb w) (hs : 60 < s.size) (hm : s.size ≤ maxLen) :
    Calls Tryd.prog 5 #[nV h0 h1 h2, .int .u32 (a : Nat), .string s] w fun e w' => e = .returned (.bool true) ∧ Below w.heap.size w w' := by
  unfold maxLen at hm
  have hT := ht.next (below1 w (.cells #[.int .i64 h0, .int .i64 h1, .int .u64 h2] 24))
  have hB := below1 w (.cells #[.int .i64 h0, .int .i64 h1, .int .u64 h2] 24)
  unfold nV
  go_enter Tryd.func5, Tryd.ntmps5
  go_wp2_with fail
  refine (awake_any _ hT).mono ?_
  rintro e w1 ⟨rfl, hb1⟩
  replace hB := hB.trans (hb1.mono hB.size)
  clear hb1 hT
  go_wp2_with fail
  go_ret
  exact ⟨rfl, hB⟩
set_option maxHeartbeats 2000000 in
theorem oidBack_short (h0 h1 h2 : Int) (a : Nat) (s : ByteArray) (w : World) (ht : Tb w) (u2 : 0 ≤ h2) (v2 : h2 < 18446744073709551616) (ha : a < 4294967296) (hs : s.size ≤ 60) :
    Calls Tryd.prog 5 #[nV h0 h1 h2, .int .u32 (a : Nat), .string s] w fun e w' => e = .returned (.bool true) ∧ Below w.heap.size w w' := by
  have hQ : Q1 w (w.alloc (.cells #[.int .i64 h0, .int .i64 h1, .int .u64 h2] 24)) h0 h1 h2 := ⟨C3.new _ _ _ _ _, ht.next (below1 _ _), below1 _ _, (below1 _ _).size⟩
  have hs32 := Lib.hid (show s.size < 4294967281 by omega)
  obtain ⟨t2, ht2, e2⟩ := and16 h0
  obtain ⟨n, rfl⟩ := Int.eq_ofNat_of_zero_le u2
  obtain ⟨r, hr⟩ : ∃ r : Nat, (a : Int) % 2147483648 = (r : Int) := ⟨a % 2147483648, by omega⟩
  have hr2 : r < 2147483648 := by omega
  have hr3 : (a : Int).tmod 2147483648 = (r : Int) := by rw [Int.tmod_eq_emod_of_nonneg (by omega)]; exact hr
  have hNm := Lib.hid (fun w => show Calls Tryd.prog 20 #[.int .i64 (r : Nat), .agg #[.int .i64 (t2 : Nat), .int .i64 0, .int .u64 (n : Nat)]] w (fun e w' => e = .returned (.agg #[.int .i64 (r : Nat), .int .i64 (t2 : Nat), .int .u64 (n : Nat)]) ∧ Below w.heap.size w w') from name_any r t2 0 n w)
  have hTx := Lib.hid (fun w ht => show Calls Tryd.prog 18 #[.agg #[.int .i64 (r : Nat), .int .i64 (t2 : Nat), .int .u64 (n : Nat)]] w (fun e w' => e = .returned (.string (textB r t2 n)) ∧ Below w.heap.size w w') from text_any r t2 n w ht (by omega) (by omega) (by omega) (by omega))
  have hPa := Lib.hid (fun w => show Calls Tryd.prog 16 #[.string (textB r t2 n)] w (fun e w' => e = .returned (.tuple #[.agg #[.int .i64 (r : Nat), .int .i64 (t2 : Nat), .int .u64 (n : Nat)], .bool true]) ∧ Below w.heap.size w w') from
    parse_at (l := some (r, t2, n)) (textB_len (by omega) (by omega) (by omega)) (by rw [textB_list]; exact parse_text (by omega) (by omega) (by omega)) w)
  clear ht2 hr2 ha u2
  by_cases k : hdB h0 h1 n = true
  · have hh := hd_t.1 k
    obtain ⟨t, rfl⟩ := Int.eq_ofNat_of_zero_le (show 0 ≤ h0 by omega)
    obtain ⟨sz, rfl⟩ := Int.eq_ofNat_of_zero_le (show 0 ≤ h1 by omega)
    have hE := Lib.hid (fun w => encode_yes t sz n w (by omega) k)
    have hbk := hdW_back (t := t) (s := sz) (by omega) (by omega)
    have hx64 : hdW t sz < 18446744073709551616 := hdW_lt (by omega) (by omega)
    have hsx := (hdW_is (hdW t sz)).1 (by rw [hbk.1, hbk.2])
    have hD : decH [hdW t sz, n] = some (t, sz, n) := by
      show (if _ then none else if (hdB (hdW t sz % 65536 : Nat) (hdW t sz / 65536 % 65536 : Nat) (n : Nat) && decide (hdW t sz / 4294967296 = 4200005632)) = true then some (hdW t sz % 65536, hdW t sz / 65536 % 65536, n) else none) = some (t, sz, n)
      rw [if_neg (by simp), hbk.1, hbk.2, k, decide_eq_true hsx]; rfl
    obtain ⟨x, hx⟩ : ∃ x : Nat, hdW t sz = x := ⟨_, rfl⟩
    rw [hx] at hE hx64 hD
    have hDd := Lib.hid (fun (w : World) (g : Nat) (hC : C2 w g (.int .u64 x) (.int .u64 n)) => show Calls Tryd.prog 11 #[.slice (some ⟨g, 0, none⟩) 2 2] w (fun e w' => e = .returned (.tuple #[.agg #[.int .i64 (t : Nat), .int .i64 (sz : Nat), .int .u64 (n : Nat)], .bool true]) ∧ Below w.heap.size w w') from dec_yes hC.kl (by simp; omega) hD)
    unfold nV at *
    clear hh hx hsx hbk hD k v2
    have e2' := Lib.hid e2
    have hr' := Lib.hid hr
    have hr3' := Lib.hid hr3
    clear e2 hr hr3
    go_enter Tryd.func5, Tryd.ntmps5
    go_wp2_with fail
    refine (awake_any _ hQ.2.1).mono ?_
    rintro e w1 ⟨rfl, hb⟩
    replace hQ := hQ.keep hb
    clear hb
    obtain ⟨c0, c1, c2⟩ := id hQ.1
    go_wp2_with fail
    refine (hE.out _).mono ?_
    rintro e w2 ⟨g, rfl, hg, hC2, hb⟩
    replace hQ := hQ.keep hb
    clear hb c0 c1 c2
    go_wp2_with fail
    refine (hDd.out _ _ hC2).mono ?_
    rintro e w3 ⟨rfl, hb⟩
    have hX := C3.new w3 (.int .i64 (t : Nat)) (.int .i64 (sz : Nat)) (.int .u64 (n : Nat)) 24
    replace hQ := (hQ.keep hb).keep (below1 w3 (.cells #[.int .i64 (t : Nat), .int .i64 (sz : Nat), .int .u64 (n : Nat)] 24))
    clear hb
    obtain ⟨c0, c1, c2⟩ := id hQ.1
    have e2 := e2'.out
    have hr := hr'.out
    have hr3 := hr3'.out
    go_wp2_with fail
    refine (hNm.out _).mono ?_
    rintro e w5 ⟨rfl, hb⟩
    clear c0 c1 c2 e2 hr hr3
    replace hQ := hQ.keep hb
    have hN := C3.new w5 (.int .i64 (r : Nat)) (.int .i64 (t2 : Nat)) (.int .u64 (n : Nat)) 36
    replace hQ := hQ.keep (below1 w5 (.cells #[.int .i64 (r : Nat), .int .i64 (t2 : Nat), .int .u64 (n : Nat)] 36))
    clear hb
    obtain ⟨c0, c1, c2⟩ := id hN
    go_wp2_with fail
    refine (hTx.out _ hQ.2.1).mono ?_
    rintro e w6 ⟨rfl, hb⟩
    replace hQ := hQ.keep hb
    replace hN := hN.keep hb
    clear hb c0 c1 c2
    go_wp2_with fail
    refine (hPa.out _).mono ?_
    rintro e w7 ⟨rfl, hb⟩
    replace hQ := hQ.keep hb
    replace hN := hN.keep hb
    clear hb
    have hP := C3.new w7 (.int .i64 (r : Nat)) (.int .i64 (t2 : Nat)) (.int .u64 (n : Nat)) 36
    replace hQ := hQ.keep (below1 w7 (.cells #[.int .i64 (r : Nat), .int .i64 (t2 : Nat), .int .u64 (n : Nat)] 36))
    replace hN := hN.keep (below1 w7 (.cells #[.int .i64 (r : Nat), .int .i64 (t2 : Nat), .int .u64 (n : Nat)] 36))
    go_wp2_with fail
    cases hps : parseO s.data.toList with
    | none =>
      refine (parse_at hs32.out hps _).mono ?_
      rintro e w8 ⟨rfl, hb⟩
      replace hQ := (hQ.keep hb).keep (below1 w8 (.cells #[.int .i64 0, .int .i64 0, .int .u64 0] 36))
      replace hN := (hN.keep hb).keep (below1 w8 (.cells #[.int .i64 0, .int .i64 0, .int .u64 0] 36))
      replace hP := (hP.keep hb).keep (below1 w8 (.cells #[.int .i64 0, .int .i64 0, .int .u64 0] 36))
      clear hb hps
      obtain ⟨c0, c1, c2⟩ := id hN
      obtain ⟨d0, d1, d2⟩ := id hP
      unfold pV nV
      go_wp2_with fail
      go_ret
      exact ⟨rfl, hQ.2.2.1⟩
    | some k =>
      obtain ⟨x1, x2, x3⟩ := k
      obtain ⟨ht1, l1, l2, l3⟩ := text_parse hps
      have hTy := Lib.hid (fun w ht => show Calls Tryd.prog 18 #[.agg #[.int .i64 (x1 : Nat), .int .i64 (x2 : Nat), .int .u64 (x3 : Nat)]] w (fun e w' => e = .returned (.string s) ∧ Below w.heap.size w w') from by
        have c := text_any x1 x2 x3 w ht (by omega) (by omega) (by omega) (by omega)
        rw [textB_is ht1] at c; exact c)
      refine (parse_at hs32.out hps _).mono ?_
      rintro e w8 ⟨rfl, hb⟩
      have hV := C3.new w8 (.int .i64 (x1 : Nat)) (.int .i64 (x2 : Nat)) (.int .u64 (x3 : Nat)) 36
      replace hQ := (hQ.keep hb).keep (below1 w8 (.cells #[.int .i64 (x1 : Nat), .int .i64 (x2 : Nat), .int .u64 (x3 : Nat)] 36))
      replace hN := (hN.keep hb).keep (below1 w8 (.cells #[.int .i64 (x1 : Nat), .int .i64 (x2 : Nat), .int .u64 (x3 : Nat)] 36))
      replace hP := (hP.keep hb).keep (below1 w8 (.cells #[.int .i64 (x1 : Nat), .int .i64 (x2 : Nat), .int .u64 (x3 : Nat)] 36))
      clear hb hps ht1 l1 l2 l3
      obtain ⟨c0, c1, c2⟩ := id hN
      obtain ⟨d0, d1, d2⟩ := id hP
      unfold pV nV
      go_wp2_with fail
      refine (hTy.out _ hQ.2.1).mono ?_
      rintro e w9 ⟨rfl, hb⟩
      replace hQ := hQ.keep hb
      clear hb c0 c1 c2 d0 d1 d2
      go_wp2_with fail
      go_ret
      exact ⟨rfl, hQ.2.2.1⟩
  · have hE := Lib.hid (fun w => encode_no h0 h1 n w (by omega) (eq_false_of_ne_true k))
    unfold nV at *
    clear k v2
    have e2' := Lib.hid e2
    have hr' := Lib.hid hr
    have hr3' := Lib.hid hr3
    clear e2 hr hr3
    go_enter Tryd.func5, Tryd.ntmps5
    go_wp2_with fail
    refine (awake_any _ hQ.2.1).mono ?_
    rintro e w1 ⟨rfl, hb⟩
    replace hQ := hQ.keep hb
    clear hb
    obtain ⟨c0, c1, c2⟩ := id hQ.1
    go_wp2_with fail
    refine (hE.out _).mono ?_
    rintro e w2 ⟨rfl, hb⟩
    replace hQ := hQ.keep hb
    clear hb c0 c1 c2
    have e2 := e2'.out
    have hr := hr'.out
    have hr3 := hr3'.out
    obtain ⟨c0, c1, c2⟩ := id hQ.1
    go_wp2_with fail
    refine (hNm.out _).mono ?_
    rintro e w5 ⟨rfl, hb⟩
    clear c0 c1 c2 e2 hr hr3
    replace hQ := hQ.keep hb
    have hN := C3.new w5 (.int .i64 (r : Nat)) (.int .i64 (t2 : Nat)) (.int .u64 (n : Nat)) 36
    replace hQ := hQ.keep (below1 w5 (.cells #[.int .i64 (r : Nat), .int .i64 (t2 : Nat), .int .u64 (n : Nat)] 36))
    clear hb
    obtain ⟨c0, c1, c2⟩ := id hN
    go_wp2_with fail
    refine (hTx.out _ hQ.2.1).mono ?_
    rintro e w6 ⟨rfl, hb⟩
    replace hQ := hQ.keep hb
    replace hN := hN.keep hb
    clear hb c0 c1 c2
    go_wp2_with fail
    refine (hPa.out _).mono ?_
    rintro e w7 ⟨rfl, hb⟩
    replace hQ := hQ.keep hb
    replace hN := hN.keep hb
    clear hb
    have hP := C3.new w7 (.int .i64 (r : Nat)) (.int .i64 (t2 : Nat)) (.int .u64 (n : Nat)) 36
    replace hQ := hQ.keep (below1 w7 (.cells #[.int .i64 (r : Nat), .int .i64 (t2 : Nat), .int .u64 (n : Nat)] 36))
    replace hN := hN.keep (below1 w7 (.cells #[.int .i64 (r : Nat), .int .i64 (t2 : Nat), .int .u64 (n : Nat)] 36))
    go_wp2_with fail
    cases hps : parseO s.data.toList with
    | none =>
      refine (parse_at hs32.out hps _).mono ?_
      rintro e w8 ⟨rfl, hb⟩
      replace hQ := (hQ.keep hb).keep (below1 w8 (.cells #[.int .i64 0, .int .i64 0, .int .u64 0] 36))
      replace hN := (hN.keep hb).keep (below1 w8 (.cells #[.int .i64 0, .int .i64 0, .int .u64 0] 36))
      replace hP := (hP.keep hb).keep (below1 w8 (.cells #[.int .i64 0, .int .i64 0, .int .u64 0] 36))
      clear hb hps
      obtain ⟨c0, c1, c2⟩ := id hN
      obtain ⟨d0, d1, d2⟩ := id hP
      unfold pV nV
      go_wp2_with fail
      go_ret
      exact ⟨rfl, hQ.2.2.1⟩
    | some k =>
      obtain ⟨x1, x2, x3⟩ := k
      obtain ⟨ht1, l1, l2, l3⟩ := text_parse hps
      have hTy := Lib.hid (fun w ht => show Calls Tryd.prog 18 #[.agg #[.int .i64 (x1 : Nat), .int .i64 (x2 : Nat), .int .u64 (x3 : Nat)]] w (fun e w' => e = .returned (.string s) ∧ Below w.heap.size w w') from by
        have c := text_any x1 x2 x3 w ht (by omega) (by omega) (by omega) (by omega)
        rw [textB_is ht1] at c; exact c)
      refine (parse_at hs32.out hps _).mono ?_
      rintro e w8 ⟨rfl, hb⟩
      have hV := C3.new w8 (.int .i64 (x1 : Nat)) (.int .i64 (x2 : Nat)) (.int .u64 (x3 : Nat)) 36
      replace hQ := (hQ.keep hb).keep (below1 w8 (.cells #[.int .i64 (x1 : Nat), .int .i64 (x2 : Nat), .int .u64 (x3 : Nat)] 36))
      replace hN := (hN.keep hb).keep (below1 w8 (.cells #[.int .i64 (x1 : Nat), .int .i64 (x2 : Nat), .int .u64 (x3 : Nat)] 36))
      replace hP := (hP.keep hb).keep (below1 w8 (.cells #[.int .i64 (x1 : Nat), .int .i64 (x2 : Nat), .int .u64 (x3 : Nat)] 36))
      clear hb hps ht1 l1 l2 l3
      obtain ⟨c0, c1, c2⟩ := id hN
      obtain ⟨d0, d1, d2⟩ := id hP
      unfold pV nV
      go_wp2_with fail
      refine (hTy.out _ hQ.2.1).mono ?_
      rintro e w9 ⟨rfl, hb⟩
      replace hQ := hQ.keep hb
      clear hb c0 c1 c2 d0 d1 d2
      go_wp2_with fail
      go_ret
      exact ⟨rfl, hQ.2.2.1⟩
end Go.Proofs.YtdblioggncnapaaDoor
