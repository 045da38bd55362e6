/-
  The laws of package seal: SealSums.
-/
import Derived.Test.YthklgmpphfdfoaaSeal6
import Derived.Test.YthklgmpphfdfoaaRegX
set_option linter.unusedVariables false
namespace Go.Proofs.Ythklgmpphfdfoaa
open Go.RowKit

theorem xor_mod2 (a b : Nat) : (a ^^^ b) % 2 = (a % 2 + b % 2) % 2 := by
  rw [show (a ^^^ b) % 2 = (a % 2 ^^^ b % 2) from Nat.xor_mod_two_pow (n := 1)]
  have h1 : a % 2 = 0 ∨ a % 2 = 1 := by omega
  have h2 : b % 2 = 0 ∨ b % 2 = 1 := by omega
  rcases h1 with h1 | h1 <;> rcases h2 with h2 | h2 <;> rw [h1, h2] <;> decide
theorem xor_div2 (a b : Nat) : (a ^^^ b) / 2 = a / 2 ^^^ b / 2 := by
  have := Nat.xor_div_two_pow (a := a) (b := b) (n := 1)
  simpa using this
theorem step_xor (r s x y : Nat) : stepN (r ^^^ s) (x ^^^ y) = stepN r x ^^^ stepN s y := by
  have hp : ((r ^^^ s) ^^^ (x ^^^ y)) % 2 = ((r ^^^ x) % 2 + (s ^^^ y) % 2) % 2 := by
    rw [show (r ^^^ s) ^^^ (x ^^^ y) = (r ^^^ x) ^^^ (s ^^^ y) by ac_rfl, xor_mod2]
  unfold stepN
  rw [hp, xor_div2]
  by_cases h1 : (r ^^^ x) % 2 = 1
  · by_cases h2 : (s ^^^ y) % 2 = 1
    · rw [if_neg (by omega), if_pos h1, if_pos h2]
      rw [show r / 2 ^^^ 3988292384 ^^^ (s / 2 ^^^ 3988292384) = (r / 2 ^^^ s / 2) ^^^ (3988292384 ^^^ 3988292384) by ac_rfl, Nat.xor_self, Nat.xor_zero]
    · rw [if_pos (by omega), if_pos h1, if_neg h2]; ac_rfl
  · by_cases h2 : (s ^^^ y) % 2 = 1
    · rw [if_pos (by omega), if_neg h1, if_pos h2]; ac_rfl
    · rw [if_neg (by omega), if_neg h1, if_neg h2]
theorem turn_xor (n : Nat) : ∀ (r s x y : Nat), turnN n (r ^^^ s) (x ^^^ y) = turnN n r x ^^^ turnN n s y := by
  induction n with
  | zero => intro r s x y; rfl
  | succ n ih =>
    intro r s x y
    show turnN n (stepN (r ^^^ s) (x ^^^ y)) ((x ^^^ y) / 2) = _
    rw [step_xor, xor_div2, ih]
    rfl
def xor3 (a b c : List Nat) (k : Nat) : List Nat := (List.range k).map fun i => a.getD i 0 ^^^ b.getD i 0 ^^^ c.getD i 0
theorem xor3_len (a b c : List Nat) (k : Nat) : (xor3 a b c k).length = k := by simp [xor3]
theorem xor3_succ (a b c : List Nat) (k : Nat) : xor3 a b c (k + 1) = xor3 a b c k ++ [a.getD k 0 ^^^ b.getD k 0 ^^^ c.getD k 0] := by simp [xor3, List.range_succ]
theorem fold_xor3 (a b c : List Nat) (r s t : Nat) : ∀ k, k ≤ a.length → k ≤ b.length → k ≤ c.length →
    foldT (r ^^^ s ^^^ t) (xor3 a b c k) = foldT r (a.take k) ^^^ foldT s (b.take k) ^^^ foldT t (c.take k) := by
  intro k
  induction k with
  | zero => intro _ _ _; rfl
  | succ k ih =>
    intro ha hb hc
    rw [xor3_succ, foldT_step r a k (by omega), foldT_step s b k (by omega), foldT_step t c k (by omega)]
    have : foldT (r ^^^ s ^^^ t) (xor3 a b c k ++ [a.getD k 0 ^^^ b.getD k 0 ^^^ c.getD k 0]) = turnN 64 (foldT (r ^^^ s ^^^ t) (xor3 a b c k)) (a.getD k 0 ^^^ b.getD k 0 ^^^ c.getD k 0) := by
      unfold foldT; rw [List.foldl_append]; rfl
    rw [this, ih (by omega) (by omega) (by omega), turn_xor, turn_xor]
theorem not_nat (s : Nat) (hs : s < 4294967296) : 4294967295 ^^^ s = 4294967295 - s := by
  apply Nat.eq_of_testBit_eq
  intro i
  rw [Nat.testBit_xor, show 4294967295 - s = 2 ^ 32 - (s + 1) by omega, Nat.testBit_two_pow_sub_succ (by omega), show (4294967295 : Nat) = 2 ^ 32 - 1 by decide, Nat.testBit_two_pow_sub_one]
  by_cases h : i < 32
  · simp [h]
  · have := Nat.testBit_lt_two_pow (Nat.lt_of_lt_of_le hs (show 4294967296 ≤ 2 ^ i from Nat.pow_le_pow_right (n := 2) (by omega) (show 32 ≤ i by omega)))
    simp [h, this]
theorem more_xor3 (a b c : List Nat) (n : Nat) (ha : a.length = n) (hb : b.length = n) (hc : c.length = n) : moreN 0 (xor3 a b c n) = moreN 0 a ^^^ moreN 0 b ^^^ moreN 0 c := by
  have h := fold_xor3 a b c 4294967295 4294967295 4294967295 n (by omega) (by omega) (by omega)
  rw [show 4294967295 ^^^ 4294967295 ^^^ 4294967295 = 4294967295 by decide, List.take_of_length_le (by omega), List.take_of_length_le (by omega), List.take_of_length_le (by omega)] at h
  have l1 := foldT_lt (xor3 a b c n) 4294967295 (by omega)
  have l2 := foldT_lt a 4294967295 (by omega)
  have l3 := foldT_lt b 4294967295 (by omega)
  have l4 := foldT_lt c 4294967295 (by omega)
  unfold moreN
  rw [Nat.sub_zero, ← not_nat _ l1, ← not_nat _ l2, ← not_nat _ l3, ← not_nat _ l4, h]
  generalize foldT 4294967295 a = A
  generalize foldT 4294967295 b = B
  generalize foldT 4294967295 c = C
  rw [show 4294967295 ^^^ A ^^^ (4294967295 ^^^ B) ^^^ (4294967295 ^^^ C) = (4294967295 ^^^ 4294967295) ^^^ (4294967295 ^^^ (A ^^^ B ^^^ C)) by ac_rfl, Nat.xor_self, Nat.zero_xor]
theorem xor_lt64 {a b : Nat} (ha : a < 18446744073709551616) (hb : b < 18446744073709551616) : a ^^^ b < 18446744073709551616 := Nat.xor_lt_two_pow (n := 64) ha hb
theorem xor3_WL {a b c : List Nat} {n : Nat} (ha : WL a) (hb : WL b) (hc : WL c) (h1 : n ≤ a.length) (h2 : n ≤ b.length) (h3 : n ≤ c.length) : WL (xor3 a b c n) := fun x hx => by
  unfold xor3 at hx
  obtain ⟨i, hi, rfl⟩ := List.mem_map.1 hx
  have hi' := List.mem_range.1 hi
  exact xor_lt64 (xor_lt64 (ha.at i (by omega)) (hb.at i (by omega))) (hc.at i (by omega))
theorem own_ge {w : World} {base e n : Nat} {v : Value} {xs : List Value} (h : w.ownsRow base e 1 v n xs) : ∀ k, v.ownBlock = some k → base ≤ k := by
  intro k hk
  rcases h.2 with ⟨hv, _⟩ | ⟨g, cap, cur, hv, hb, hg, _⟩
  · subst hv; simp [Value.ownBlock] at hk
  · subst hv; simp [Value.ownBlock] at hk; omega
theorem wv_succ (l : List Nat) (x : Nat) : wv (l ++ [x]) = wv l ++ [.int .u64 (x : Int)] := by simp [wv]
theorem SL.of_owns {w : World} {base e : Nat} {v : Value} {l : List Nat} (h : w.ownsRow base e 1 v l.length (wv l)) : SL w v l := by
  have h' := h
  rcases h.2 with ⟨hv, hn⟩ | ⟨g, cap, cur, hv, hb, hg, h1, h2, h3, h4⟩
  · exact .inl ⟨List.length_eq_zero_iff.1 hn, none, 0, by rw [hv]⟩
  · subst hv
    refine .inr ⟨g, 0, cap, rfl, (Array.getElem?_eq_some_iff.1 hg).1, h1, fun i hi => ?_⟩
    rw [Nat.zero_add, h'.cellAt i (by omega), wv_at l i hi]

set_option maxRecDepth 10000 in
set_option maxHeartbeats 2000000 in
theorem sealSums_in (a b c : List Nat) (n ga oa pa gb ob pb gc oc pc : Nat) (w : World) (la : WL a) (lb : WL b) (lc : WL c) (na : a.length = n) (nb : b.length = n) (nc : c.length = n) (hn : n ≤ 40)
    (ha : ga < w.heap.size) (hb : gb < w.heap.size) (hc : gc < w.heap.size) (sa : SL w (.slice (some ⟨ga, oa, none⟩) n pa) a) (sb : SL w (.slice (some ⟨gb, ob, none⟩) n pb) b) (sc : SL w (.slice (some ⟨gc, oc, none⟩) n pc) c)
    (fa : Hid (∀ i, i < n → w.cell? ⟨ga, oa + i, none⟩ = some (.int .u64 (a.getD i 0 : Nat)))) (fb : Hid (∀ i, i < n → w.cell? ⟨gb, ob + i, none⟩ = some (.int .u64 (b.getD i 0 : Nat)))) (fc : Hid (∀ i, i < n → w.cell? ⟨gc, oc + i, none⟩ = some (.int .u64 (c.getD i 0 : Nat)))) :
    Calls Try.prog 7 #[.slice (some ⟨ga, oa, none⟩) n pa, .slice (some ⟨gb, ob, none⟩) n pb, .slice (some ⟨gc, oc, none⟩) n pc] w fun e w' => e = .returned (.bool true) ∧ Below w.heap.size w w' := by
  obtain ⟨i0, hi, hz0, hz1, hz2⟩ := info_parts infoU64
  have hSa := Lib.hid sa
  have hSb := Lib.hid sb
  have hSc := Lib.hid sc
  clear sa sb sc
  have hbig : ¬ (40 : Int) < (n : Int) := by omega
  go_enter Try.func7, Try.ntmps7
  go_wp2_with fail
  refine (awake02 _).mono ?_
  rintro e w1 ⟨rfl, hb1⟩
  go_wp2_with fail
  go_loopw [8, 9] (fun v i wr => ∃ k : Nat, k ≤ n ∧ i = .int .i64 k ∧ wr.ownsRow w.heap.size 30 1 v (xor3 a b c k).length (wv (xor3 a b c k)) ∧ Below w.heap.size w wr) (fun _ i _ => 41 - (intOf i).toNat)
  case atStart => exact ⟨0, Nat.zero_le _, rfl, World.ownsRow_nil _ _ _ _, hb1⟩
  case round =>
    obtain ⟨k, hk, rfl, hown, hB⟩ := hrel
    by_cases hlt : k < n
    · have hlt' : (k : Int) < (n : Int) := by omega
      have ga1 := Lib.hid (fa.out k hlt)
      have gb1 := Lib.hid (fb.out k hlt)
      have gc1 := Lib.hid (fc.out k hlt)
      have ca : wr.cell? ⟨ga, oa + k, none⟩ = some (.int .u64 (a.getD k 0 : Nat)) := by rw [(bcell hB).1 _ _ ha]; exact fa.out k hlt
      have cb : wr.cell? ⟨gb, ob + k, none⟩ = some (.int .u64 (b.getD k 0 : Nat)) := by rw [(bcell hB).1 _ _ hb]; exact fb.out k hlt
      have cc : wr.cell? ⟨gc, oc + k, none⟩ = some (.int .u64 (c.getD k 0 : Nat)) := by rw [(bcell hB).1 _ _ hc]; exact fc.out k hlt
      have xa1 := la.at k (by omega)
      have xb1 := lb.at k (by omega)
      have xc1 := lc.at k (by omega)
      have hstep := Lib.hid (xor3_succ a b c k)
      have hlen := xor3_len a b c k
      generalize a.getD k 0 = xa at *
      generalize b.getD k 0 = xb at *
      generalize c.getD k 0 = xc at *
      have e1 : bits .xor .u64 (xa : Int) (xb : Int) = ((xa ^^^ xb : Nat) : Int) := u64_xor_nat xa xb xa1 xb1
      have e2 : bits .xor .u64 ((xa ^^^ xb : Nat) : Int) (xc : Int) = ((xa ^^^ xb ^^^ xc : Nat) : Int) := u64_xor_nat _ xc (xor_lt64 xa1 xb1) xc1
      go_wp2_with fail
      refine wp_region_held_drew (S := (fun w' => w'.cell? ⟨ga, oa + k, none⟩ = some (.int .u64 xa) ∧ w'.cell? ⟨gb, ob + k, none⟩ = some (.int .u64 xb) ∧ w'.cell? ⟨gc, oc + k, none⟩ = some (.int .u64 xc) ∧ Below w.heap.size w w')) (by kernel_rfl) ?_ (fun hHeld => ?_)
      · exact ⟨ca, cb, cc, hB.drew⟩
      refine takeL 0 (v := ?_) rfl (by kernel_rfl) (by kernel_rfl) (by kernel_rfl) (fun _ _ _ h => h) (by rfl) (by assumption) ?_ ?_
      rotate_left
      · (intro w hSw; (try dsimp only at hSw); go_simp <;> with_reducible rfl)
      try simp only [Act.put, List.setIfInBounds_toArray, List.set_cons_zero, List.set_cons_succ]
      refine takeL 1 (v := ?_) rfl (by kernel_rfl) (by kernel_rfl) (by kernel_rfl) (fun _ _ _ h => h) (by rfl) (by assumption) ?_ ?_
      rotate_left
      · (intro w hSw; (try dsimp only at hSw); go_simp <;> with_reducible rfl)
      try simp only [Act.put, List.setIfInBounds_toArray, List.set_cons_zero, List.set_cons_succ]
      refine takeL 2 (v := ?_) rfl (by kernel_rfl) (by kernel_rfl) (by kernel_rfl) (fun _ _ _ h => h) (by rfl) (by assumption) ?_ ?_
      rotate_left
      · (intro w hSw; (try dsimp only at hSw); go_simp <;> with_reducible rfl)
      try simp only [Act.put, List.setIfInBounds_toArray, List.set_cons_zero, List.set_cons_succ]
      refine takeL 3 (v := ?_) rfl (by kernel_rfl) (by kernel_rfl) (by kernel_rfl) (fun _ _ _ h => h) (by rfl) (by assumption) ?_ ?_
      rotate_left
      · (intro w hSw; (try dsimp only at hSw); go_simp <;> with_reducible rfl)
      try simp only [Act.put, List.setIfInBounds_toArray, List.set_cons_zero, List.set_cons_succ]
      refine takeL 4 (v := ?_) rfl (by kernel_rfl) (by kernel_rfl) (by kernel_rfl) (fun _ _ _ h => h) (by rfl) (by assumption) ?_ ?_
      rotate_left
      · (intro w hSw; (try dsimp only at hSw); go_simp <;> with_reducible rfl)
      try simp only [Act.put, List.setIfInBounds_toArray, List.set_cons_zero, List.set_cons_succ]
      refine takeL 5 (v := ?_) rfl (by kernel_rfl) (by kernel_rfl) (by kernel_rfl) (fun _ _ _ h => h) (by rfl) (by assumption) ?_ ?_
      rotate_left
      · (intro w hSw; (try dsimp only at hSw); go_simp <;> with_reducible rfl)
      try simp only [Act.put, List.setIfInBounds_toArray, List.set_cons_zero, List.set_cons_succ]
      refine takeL 6 (v := ?_) rfl (by kernel_rfl) (by kernel_rfl) (by kernel_rfl) (fun _ _ _ h => h) (by rfl) (by assumption) ?_ ?_
      rotate_left
      · (intro w hSw; (try dsimp only at hSw); go_simp <;> with_reducible rfl)
      try simp only [Act.put, List.setIfInBounds_toArray, List.set_cons_zero, List.set_cons_succ]
      refine takeL 7 (v := ?_) rfl (by kernel_rfl) (by kernel_rfl) (by kernel_rfl) (fun _ _ _ h => h) (by rfl) (by assumption) ?_ ?_
      rotate_left
      · (intro w hSw; (try dsimp only at hSw); go_simp <;> with_reducible rfl)
      try simp only [Act.put, List.setIfInBounds_toArray, List.set_cons_zero, List.set_cons_succ]
      refine takeL 8 (v := ?_) rfl (by kernel_rfl) (by kernel_rfl) (by kernel_rfl) (fun _ _ _ h => h) (by rfl) (by assumption) ?_ ?_
      rotate_left
      · (intro w hSw; (try dsimp only at hSw); go_simp <;> with_reducible rfl)
      try simp only [Act.put, List.setIfInBounds_toArray, List.set_cons_zero, List.set_cons_succ]
      refine takeL 9 (v := ?_) rfl (by kernel_rfl) (by kernel_rfl) (by kernel_rfl) (fun _ _ _ h => h) (by rfl) (by assumption) ?_ ?_
      rotate_left
      · (intro w hSw; (try dsimp only at hSw); go_simp <;> with_reducible rfl)
      try simp only [Act.put, List.setIfInBounds_toArray, List.set_cons_zero, List.set_cons_succ]
      refine takeL 10 (v := ?_) rfl (by kernel_rfl) (by kernel_rfl) (by kernel_rfl) (fun _ _ _ h => h) (by rfl) (by assumption) ?_ ?_
      rotate_left
      · (intro w hSw; (try dsimp only at hSw); go_simp <;> with_reducible rfl)
      try simp only [Act.put, List.setIfInBounds_toArray, List.set_cons_zero, List.set_cons_succ]
      refine takeL 11 (v := ?_) rfl (by kernel_rfl) (by kernel_rfl) (by kernel_rfl) (fun _ _ _ h => h) (by rfl) (by assumption) ?_ ?_
      rotate_left
      · (intro w hSw; (try dsimp only at hSw); go_simp <;> with_reducible rfl)
      try simp only [Act.put, List.setIfInBounds_toArray, List.set_cons_zero, List.set_cons_succ]
      refine takeL 12 (v := ?_) rfl (by kernel_rfl) (by kernel_rfl) (by kernel_rfl) (fun _ _ _ h => h) (by rfl) (by assumption) ?_ ?_
      rotate_left
      · (intro w hSw; (try dsimp only at hSw); go_simp <;> with_reducible rfl)
      try simp only [Act.put, List.setIfInBounds_toArray, List.set_cons_zero, List.set_cons_succ]
      refine takeL 13 (v := ?_) rfl (by kernel_rfl) (by kernel_rfl) (by kernel_rfl) (fun _ _ _ h => h) (by rfl) (by assumption) ?_ ?_
      rotate_left
      · (intro w hSw; (try dsimp only at hSw); go_simp <;> with_reducible rfl)
      try simp only [Act.put, List.setIfInBounds_toArray, List.set_cons_zero, List.set_cons_succ]
      refine takeL 14 (v := ?_) rfl (by kernel_rfl) (by kernel_rfl) (by kernel_rfl) (fun _ _ _ h => h) (by rfl) (by assumption) ?_ ?_
      rotate_left
      · (intro w hSw; (try dsimp only at hSw); go_simp <;> with_reducible rfl)
      try simp only [Act.put, List.setIfInBounds_toArray, List.set_cons_zero, List.set_cons_succ]
      refine oneL 15 rfl (by kernel_rfl) (fun K hK => ?_)
      go_simp
      refine hK.out _ _ ?_ (fun hHeld2 => ?_)
      · have hb := (Below.refl wr.heap.size wr).drew.alloc (Nat.le_refl _) (.cells #[.int .u64 (xa ^^^ xb ^^^ xc : Nat)] 30)
        first | exact ⟨cellK ca hb, cellK cb hb, cellK cc hb, hB.trans (hb.mono hB.size)⟩ | (trace_state; sorry)
      clear hK K
      have hHeld := hHeld2
      clear hHeld2
      try simp only [Act.put, List.setIfInBounds_toArray, List.set_cons_zero, List.set_cons_succ]
      refine oneL 16 rfl (by kernel_rfl) (fun K hK => ?_)
      rw [if_pos (by rfl)]
      refine wp_append_own _ _ _ 22 rfl w.heap.size 30 i0 (.int .u64 0) 1 8 Try.underlying22 hi hz0 hz1 hz2 rfl (by decide) _ _ _ rfl (hown.alloc _) ⟨_, 0, none⟩ 1 1 [.int .u64 (xa ^^^ xb ^^^ xc : Nat)] rfl rfl (cell_one_new _ _ _) (by simp [Value.oneCell']) (by unfold maxLen; omega) (by omega) (by have := hB.size; simp; omega) ?_
      intro v2 w2 hown2 hgr _
      have R2 : Below w.heap.size w w2 := (hB.alloc hB.size (.cells #[.int .u64 (xa ^^^ xb ^^^ xc : Nat)] 30)).drew.grown hgr (by have := hB.size; simp; omega) (own_ge hown)
      have R1 : w2.ownsRow w.heap.size 30 1 v2 (xor3 a b c (k + 1)).length (wv (xor3 a b c (k + 1))) := by rw [hstep.out, wv_succ, List.length_append]; exact hown2
      have da : w2.cell? ⟨ga, oa + k, none⟩ = some (.int .u64 xa) := by rw [(bcell R2).1 _ _ ha]; exact ga1.out
      have db : w2.cell? ⟨gb, ob + k, none⟩ = some (.int .u64 xb) := by rw [(bcell R2).1 _ _ hb]; exact gb1.out
      have dc : w2.cell? ⟨gc, oc + k, none⟩ = some (.int .u64 xc) := by rw [(bcell R2).1 _ _ hc]; exact gc1.out
      clear hown2 hgr hown
      try simp only [Act.put, List.setIfInBounds_toArray, List.set_cons_zero, List.set_cons_succ]
      refine hK.out _ _ ⟨da, db, dc, R2⟩ (fun _ => ?_)
      clear hK K hHeld
      try simp only [Act.put, List.setIfInBounds_toArray, List.set_cons_zero, List.set_cons_succ]
      refine takeL 17 (v := ?_) rfl (by kernel_rfl) (by kernel_rfl) (by kernel_rfl) (fun _ _ _ h => h) (by rfl) ⟨da, db, dc, R2⟩ ?_ ?_
      rotate_left
      · (intro w hSw; (try dsimp only at hSw); go_simp <;> with_reducible rfl)
      try simp only [Act.put, List.setIfInBounds_toArray, List.set_cons_zero, List.set_cons_succ]
      refine wpAnyH_done (by kernel_rfl) ?_ _
      go_wp2_with fail
      go_roundw
      case rel => exact ⟨k + 1, by omega, by go_num, R1, R2⟩
      case measure => simp [intOf]; omega
    · obtain rfl : k = n := by omega
      have hX := SL.of_owns hown
      obtain ⟨sx, px, rfl⟩ := hX.form
      rw [xor3_len] at hX hown ⊢
      have hM := Lib.hid (fun w1 (hb : Below wr.heap.size wr w1) => of_any _ (xor3 a b c k) w1 (xor3_WL la lb lc (by omega) (by omega) (by omega)) (by rw [xor3_len]; omega) (hX.keep hb))
      have hMa := Lib.hid (fun w1 (hb : Below w.heap.size w w1) => of_any _ a w1 la (by omega) (hSa.out.keep hb))
      have hMb := Lib.hid (fun w1 (hb : Below w.heap.size w w1) => of_any _ b w1 lb (by omega) (hSb.out.keep hb))
      have hMc := Lib.hid (fun w1 (hb : Below w.heap.size w w1) => of_any _ c w1 lc (by omega) (hSc.out.keep hb))
      rw [more_xor3 a b c k na nb nc] at hM
      have la1 := moreN_lt 0 a
      have lb1 := moreN_lt 0 b
      have lc1 := moreN_lt 0 c
      generalize moreN 0 a = A at *
      generalize moreN 0 b = B at *
      generalize moreN 0 c = C at *
      have e1 : bits .xor .u32 (A : Int) (B : Int) = ((A ^^^ B : Nat) : Int) := u32_xor_nat A B la1 lb1
      have e2 : bits .xor .u32 ((A ^^^ B : Nat) : Int) (C : Int) = ((A ^^^ B ^^^ C : Nat) : Int) := u32_xor_nat _ C (xor_lt32 la1 lb1) lc1
      have e3 : (((A ^^^ B ^^^ C : Nat) : Int) == ((A ^^^ B ^^^ C : Nat) : Int)) = true := by simp
      go_wp2_with fail
      refine (hM.out _ (Below.refl _ _)).mono ?_
      rintro e w3 ⟨rfl, hb3⟩
      have hB3 := hB.trans (hb3.mono hB.size)
      go_wp2_with fail
      refine (hMa.out _ hB3).mono ?_
      rintro e w4 ⟨rfl, hb4⟩
      have hB4 := hB3.trans (hb4.mono hB3.size)
      go_wp2_with fail
      refine (hMb.out _ hB4).mono ?_
      rintro e w5 ⟨rfl, hb5⟩
      have hB5 := hB4.trans (hb5.mono hB4.size)
      go_wp2_with fail
      refine (hMc.out _ hB5).mono ?_
      rintro e w6 ⟨rfl, hb6⟩
      have hB6 := hB5.trans (hb6.mono hB5.size)
      go_wp2_with fail
      go_ret
      exact ⟨ret_b (by first | rfl | (simp; done) | (simp [e1, e2]; done)), hB6⟩
end Go.Proofs.Ythklgmpphfdfoaa
