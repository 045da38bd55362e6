/-
  Layer 18 (lock): a table behind operations.
-/
import Derived.Test.YtibhahbimoiaaaaLk11
import Derived.Test.YtibhahbimoiaaaaRegS
set_option linter.unusedVariables false
set_option linter.unusedSimpArgs false
namespace Go.Proofs.Ytibhahbimoiaaaa
open Go.RowKit Go.ChangeShapes Go.WideShapes Go.Deep
open Go.Maps

def doG (g : Gx) (o : Lx) : Gx := if o.1 = 0 then lockG g o.2.1 o.2.2 else if o.1 = 3 then letG g o.2.2 else g
def doneG (l : List Lx) : Gx := l.foldl doG (fun _ => none)
theorem doneG_take (l : List Lx) (k : Nat) (h : k < l.length) : doneG (l.take (k + 1)) = doG (doneG (l.take k)) (l.getD k default) := by
  unfold doneG
  rw [List.take_succ_eq_append_getElem h, List.foldl_append, List.getD_eq_getElem?_getD, List.getElem?_eq_getElem h]
  rfl
theorem LL.at {l : List Lx} (h : LL l) {k : Nat} (hk : k < l.length) : LB (l.getD k default) := by
  rw [List.getD_eq_getElem?_getD, List.getElem?_eq_getElem hk]
  exact h.2 _ (List.getElem_mem hk)

set_option maxRecDepth 10000 in
set_option maxHeartbeats 2000000 in
theorem done_any (v : Value) (l : List Lx) (w : World) (hl : LL l) (hlen : l.length ≤ 10000000000000) (hv : LPL w v l) :
    Calls Try.prog 40 #[v] w fun e w' => ∃ B M, e = .returned (.pointer (some ⟨B, 0, none⟩)) ∧ Tab w' B M l.length (doneG l) ∧ w.heap.size ≤ B ∧ w.heap.size ≤ M ∧ Below w.heap.size w w' := by
  obtain ⟨n, hn⟩ : ∃ n, l.length = n := ⟨_, rfl⟩
  obtain ⟨A, cap, rfl, hC⟩ := EL.form hv hn
  have hS := Lib.hid (fun k (hk : k < n) => doneG_take l k (by omega))
  have hE := Lib.hid (show doneG (l.take n) = doneG l from by rw [List.take_of_length_le (by omega)])
  have hLB := Lib.hid (fun k (hk : k < n) => hl.at (k := k) (by omega))
  replace hC := Lib.hid hC
  have hn9 : n ≤ 10000000000000 := by omega
  have hNew := New_any w
  rw [hn]
  replace hn := Lib.hid hn
  clear hl hv hlen
  go_enter Try.func40, Try.ntmps40
  go_wp2_with (go_at_call 30; refine hNew.mono ?_; rintro e w1 ⟨rfl, ht0, hb0⟩)
  clear hNew
  have hsz0 := ht0.ltB
  obtain ⟨B, hB0⟩ : ∃ B, w.heap.size + 1 = B := ⟨_, rfl⟩
  rw [hB0] at ht0 ⊢
  obtain ⟨M, hM0⟩ : ∃ M, w.heap.size = M := ⟨_, rfl⟩
  have hMle : w.heap.size ≤ M := by omega
  have hBle : w.heap.size ≤ B := by omega
  replace ht0 : Tab w1 B M 0 (fun _ => none) := by rw [← hM0]; exact ht0
  have hM1 := Lib.hid hM0
  clear hM0 hB0 hsz0
  go_loopw [4] (fun i wr => ∃ k : Nat, k ≤ n ∧ i = .int .i64 k ∧ Tab wr B M k (doneG (l.take k)) ∧ Below w.heap.size w wr) (fun i _ => n + 1 - (intOf i).toNat)
  case atStart => exact ⟨0, Nat.zero_le _, rfl, ht0, hb0⟩
  case round =>
    clear ht0 hb0
    obtain ⟨k, hk, rfl, ht, hB⟩ := hrel
    have hsz := hB.size
    by_cases hlt : k < n
    · obtain ⟨g, off, rfl, hcap, hgw, hg, hcl⟩ := hC.out wr k hB hlt
      have c0 := hcl 0 (by omega)
      have c1 := hcl 1 (by omega)
      have c2 := hcl 2 (by omega)
      clear hcl
      rw [Nat.add_zero] at c0
      have hlt' : (k : Int) < (n : Int) := by omega
      have hs := hS.out k hlt
      have hlb := hLB.out k hlt
      generalize l.getD k default = o at *
      obtain ⟨kd, key, lane⟩ := o
      replace c0 : wr.cell? ⟨g, off + k * 3, none⟩ = some (.int .u8 (kd : Nat)) := c0
      replace c1 : wr.cell? ⟨g, off + k * 3 + 1, none⟩ = some (.int .i64 key) := c1
      replace c2 : wr.cell? ⟨g, off + k * 3 + 2, none⟩ = some (.int .i64 lane) := c2
      have hk1 : I64 key := ⟨hlb.2.1, hlb.2.2.1⟩
      have hl1 : I64 lane := ⟨hlb.2.2.2.1, hlb.2.2.2.2⟩
      clear hlb
      replace hk1 := Lib.hid hk1
      replace hl1 := Lib.hid hl1
      by_cases q0 : kd = 0
      · subst q0
        have hR := Lib.hid (show doneG (l.take (k + 1)) = lockG (doneG (l.take k)) key lane from by rw [hs]; exact if_pos rfl)
        clear hs
        have hLk := Lib.hid (fun (w : World) (h : Tab w B M k (doneG (l.take k))) => Lock_any B M k _ key lane w h hk1.out hl1.out (by unfold maxLen; omega))
        generalize doneG (l.take k) = G at *
        go_wp2_with fail
        refine wp_region_tail (S := (fun w' => w'.cell? ⟨g, off + k * 3 + 1, none⟩ = some (.int .i64 key) ∧ w'.cell? ⟨g, off + k * 3 + 2, none⟩ = some (.int .i64 lane) ∧ Tab w' B M k G ∧ Below wr.heap.size wr w')) (n := 11) (by kernel_rfl) ?_ (fun hHeld hInv => ?_) (by decide)
        · (try dsimp only)
          (first | assumption | (exact ⟨c1, c2, ht.keep ((Below.refl _ _).drew), (Below.refl _ _).drew⟩))
        refine takeS 0 (v := ?_) (tailAt (by kernel_rfl)) hInv (by decide) rfl (by kernel_rfl) (by kernel_rfl) (by kernel_rfl) (fun _ _ _ h => h) (by rfl) (by assumption) ?_ (fun hInv2 => ?_)
        rotate_left
        · (intro w hSw; (try dsimp only at hSw); (try go_split_ands); go_simp <;> with_reducible rfl)
        clear hInv
        have hInv := hInv2
        clear hInv2
        try simp only [Act.put, List.setIfInBounds_toArray, List.set_cons_zero, List.set_cons_succ] at hInv ⊢
        refine takeS 1 (v := ?_) (tailAt (by kernel_rfl)) hInv (by decide) rfl (by kernel_rfl) (by kernel_rfl) (by kernel_rfl) (fun _ _ _ h => h) (by rfl) (by assumption) ?_ (fun hInv2 => ?_)
        rotate_left
        · (intro w hSw; (try dsimp only at hSw); (try go_split_ands); go_simp <;> with_reducible rfl)
        clear hInv
        have hInv := hInv2
        clear hInv2
        try simp only [Act.put, List.setIfInBounds_toArray, List.set_cons_zero, List.set_cons_succ] at hInv ⊢
        refine takeS 2 (v := ?_) (tailAt (by kernel_rfl)) hInv (by decide) rfl (by kernel_rfl) (by kernel_rfl) (by kernel_rfl) (fun _ _ _ h => h) (by rfl) (by assumption) ?_ (fun hInv2 => ?_)
        rotate_left
        · (intro w hSw; (try dsimp only at hSw); (try go_split_ands); go_simp <;> with_reducible rfl)
        clear hInv
        have hInv := hInv2
        clear hInv2
        try simp only [Act.put, List.setIfInBounds_toArray, List.set_cons_zero, List.set_cons_succ] at hInv ⊢
        refine takeS 3 (v := ?_) (tailAt (by kernel_rfl)) hInv (by decide) rfl (by kernel_rfl) (by kernel_rfl) (by kernel_rfl) (fun _ _ _ h => h) (by rfl) (by assumption) ?_ (fun hInv2 => ?_)
        rotate_left
        · (intro w hSw; (try dsimp only at hSw); (try go_split_ands); go_simp <;> with_reducible rfl)
        clear hInv
        have hInv := hInv2
        clear hInv2
        try simp only [Act.put, List.setIfInBounds_toArray, List.set_cons_zero, List.set_cons_succ] at hInv ⊢
        refine takeS 4 (v := ?_) (tailAt (by kernel_rfl)) hInv (by decide) rfl (by kernel_rfl) (by kernel_rfl) (by kernel_rfl) (fun _ _ _ h => h) (by rfl) (by assumption) ?_ (fun hInv2 => ?_)
        rotate_left
        · (intro w hSw; (try dsimp only at hSw); (try go_split_ands); go_simp <;> with_reducible rfl)
        clear hInv
        have hInv := hInv2
        clear hInv2
        try simp only [Act.put, List.setIfInBounds_toArray, List.set_cons_zero, List.set_cons_succ] at hInv ⊢
        refine takeS 5 (v := ?_) (tailAt (by kernel_rfl)) hInv (by decide) rfl (by kernel_rfl) (by kernel_rfl) (by kernel_rfl) (fun _ _ _ h => h) (by rfl) (by assumption) ?_ (fun hInv2 => ?_)
        rotate_left
        · (intro w hSw; (try dsimp only at hSw); (try go_split_ands); go_simp <;> with_reducible rfl)
        clear hInv
        have hInv := hInv2
        clear hInv2
        try simp only [Act.put, List.setIfInBounds_toArray, List.set_cons_zero, List.set_cons_succ] at hInv ⊢
        refine takeS 6 (v := ?_) (tailAt (by kernel_rfl)) hInv (by decide) rfl (by kernel_rfl) (by kernel_rfl) (by kernel_rfl) (fun _ _ _ h => h) (by rfl) (by assumption) ?_ (fun hInv2 => ?_)
        rotate_left
        · (intro w hSw; (try dsimp only at hSw); (try go_split_ands); go_simp <;> with_reducible rfl)
        clear hInv
        have hInv := hInv2
        clear hInv2
        try simp only [Act.put, List.setIfInBounds_toArray, List.set_cons_zero, List.set_cons_succ] at hInv ⊢
        refine takeS 7 (v := ?_) (tailAt (by kernel_rfl)) hInv (by decide) rfl (by kernel_rfl) (by kernel_rfl) (by kernel_rfl) (fun _ _ _ h => h) (by rfl) (by assumption) ?_ (fun hInv2 => ?_)
        rotate_left
        · (intro w hSw; (try dsimp only at hSw); (try go_split_ands); go_simp <;> with_reducible rfl)
        clear hInv
        have hInv := hInv2
        clear hInv2
        try simp only [Act.put, List.setIfInBounds_toArray, List.set_cons_zero, List.set_cons_succ] at hInv ⊢
        refine takeS 8 (v := ?_) (tailAt (by kernel_rfl)) hInv (by decide) rfl (by kernel_rfl) (by kernel_rfl) (by kernel_rfl) (fun _ _ _ h => h) (by rfl) (by assumption) ?_ (fun hInv2 => ?_)
        rotate_left
        · (intro w hSw; (try dsimp only at hSw); (try go_split_ands); go_simp <;> with_reducible rfl)
        clear hInv
        have hInv := hInv2
        clear hInv2
        try simp only [Act.put, List.setIfInBounds_toArray, List.set_cons_zero, List.set_cons_succ] at hInv ⊢
        refine takeS 9 (v := ?_) (tailAt (by kernel_rfl)) hInv (by decide) rfl (by kernel_rfl) (by kernel_rfl) (by kernel_rfl) (fun _ _ _ h => h) (by rfl) (by assumption) ?_ (fun hInv2 => ?_)
        rotate_left
        · (intro w hSw; (try dsimp only at hSw); (try go_split_ands); go_simp <;> with_reducible rfl)
        clear hInv
        have hInv := hInv2
        clear hInv2
        try simp only [Act.put, List.setIfInBounds_toArray, List.set_cons_zero, List.set_cons_succ] at hInv ⊢
        refine takeS 10 (v := ?_) (tailAt (by kernel_rfl)) hInv (by decide) rfl (by kernel_rfl) (by kernel_rfl) (by kernel_rfl) (fun _ _ _ h => h) (by rfl) (by assumption) ?_ (fun hInv2 => ?_)
        rotate_left
        · (intro w hSw; (try dsimp only at hSw); (try go_split_ands); go_simp <;> with_reducible rfl)
        clear hInv
        have hInv := hInv2
        clear hInv2
        try simp only [Act.put, List.setIfInBounds_toArray, List.set_cons_zero, List.set_cons_succ] at hInv ⊢
        refine lastS 11 rfl (by decide) (by kernel_rfl) (fun K hK => ?_)
        go_simp
        obtain ⟨r0, r1, rT, rB⟩ := id hHeld
        (with_reducible refine (hLk.out _ rT).mono ?_; rintro e w8 ⟨rfl, ht8, hg8⟩)
        refine hK.out _ _ ?_
        clear hK K
        try simp only [Act.put, List.setIfInBounds_toArray, List.set_cons_zero, List.set_cons_succ]
        refine wpAnyS_done (by kernel_rfl) ?_ _
        have hB8 : Below w.heap.size w w8 := (hB.trans (rB.mono hsz)).trans (grown_far hg8 hMle (by have := rB.size; omega))
        rw [← hR.out] at ht8
        clear hHeld hInv rB r0 r1 rT hg8 ht hB
        go_wp2_with fail
        go_roundw
        case rel => exact ⟨k + 1, by omega, by go_num, ht8, hB8⟩
        case measure => simp [intOf]; omega
      by_cases q3 : kd = 3
      · subst q3
        have hR := Lib.hid (show doneG (l.take (k + 1)) = letG (doneG (l.take k)) lane from by rw [hs]; rfl)
        clear hs
        have hRl := Release_any B M k _ lane wr ht (by omega)
        clear ht
        go_wp2_with (go_at_call 33; refine hRl.mono ?_; rintro e w8 ⟨L, rfl, hL, hLn, ht8, hg8⟩; rw [← hR.out] at ht8; have hB8 : Below w.heap.size w w8 := hB.trans (grown_far hg8 hMle hsz); clear hL hg8 hLn)
        go_roundw
        case rel => exact ⟨k + 1, by omega, by go_num, ht8.mono (by omega), hB8⟩
        case measure => simp [intOf]; omega
      · have hR := Lib.hid (show doneG (l.take (k + 1)) = doneG (l.take k) from by rw [hs]; exact (if_neg q0).trans (if_neg q3))
        have f0 : ((kd : Int) == (0 : Int)) = false := by rw [beq_eq_false_iff_ne]; omega
        have f3 : ((kd : Int) == (3 : Int)) = false := by rw [beq_eq_false_iff_ne]; omega
        rw [← hR.out] at ht
        clear hs
        go_wp2_with fail
        go_roundw
        case rel => exact ⟨k + 1, by omega, by go_num, ht.mono (by omega), hB⟩
        case measure => simp [intOf]; omega
    · obtain rfl : k = n := by omega
      rw [hE.out] at ht
      go_wp2_with fail
      go_ret
      exact ⟨B, M, rfl, ht, hBle, hMle, hB⟩
end Go.Proofs.Ytibhahbimoiaaaa
