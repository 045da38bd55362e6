/-
  The laws of package lock: LockApart.
-/
import Derived.Test.YtibhahbimoiaaaaLk15
import Derived.Test.YtibhahbimoiaaaaRegX
import Derived.Test.YtibhahbimoiaaaaRegS
set_option linter.unusedVariables false
set_option linter.unusedSimpArgs false
namespace Go.Proofs.Ytibhahbimoiaaaa
open Go.RowKit Go.ChangeShapes Go.WideShapes Go.Deep
open Go.Maps

/-- what a lane has is the same -/
def Like (lane : Int) (g g' : Gx) : Prop := ∀ x, g' x = some lane ↔ g x = some lane
theorem Like.lock {lane c key : Int} {g g' : Gx} (h : Like lane g g') (hc : c ≠ lane) : Like lane g (lockG g' key c) := fun x => by
  rw [← h x]
  unfold lockG
  split
  · rename_i hf
    unfold putG
    by_cases e : x = key
    · subst e
      rw [if_pos rfl]
      constructor
      · intro q; injection q with q; exact absurd q hc
      · intro q
        rcases hf with hf | hf
        · rw [hf] at q; cases q
        · rw [hf] at q; injection q with q; exact absurd q hc
    · rw [if_neg e]
  · rfl
theorem Like.let {lane c : Int} {g g' : Gx} (h : Like lane g g') (hc : c ≠ lane) : Like lane g (letG g' c) := fun x => by
  rw [← h x]
  unfold letG
  split
  · rename_i q
    constructor
    · intro e; cases e
    · intro e; rw [q] at e; injection e with e; exact absurd e hc
  · rfl
theorem Like.held {lane : Int} {g g' : Gx} (h : Like lane g g') {L : List Int} (hL : HeldIs g lane L) : HeldIs g' lane L := ⟨hL.inc, fun x => by rw [hL.mem x, h x]⟩
theorem lockA {w0 w : World} {B M n base : Nat} {g : Gx} {key lane : Int} {v : Value} {L : List Int} (h : TabO w0 w B M n g) (ho : OwnE 3 1 iE w base v L) (hb : M < base) (hk : I64 key) (hl : I64 lane) (hn : n ≤ 10000000000000) :
    Calls Try.prog 31 #[.pointer (some ⟨B, 0, none⟩), .int .i64 key, .int .i64 lane] w fun e w' => e = .returned (.bool (freeB g key lane)) ∧ TabO w0 w' B M (n + 1) (lockG g key lane) ∧ OwnE 3 1 iE w' base v L := by
  refine (Lock_any B M n g key lane w h.tab hk hl (by unfold maxLen; omega)).mono ?_
  rintro e w' ⟨rfl, ht, hg⟩
  exact ⟨rfl, h.turned ht hg, own_turned ho hg hb⟩

set_option maxRecDepth 10000 in
set_option maxHeartbeats 1000000 in
theorem lockApart (v v1 : Value) (l lm : List Lx) (a : Int) (w : World) (hl : LL l) (hv : LPL w v l) (hz : l.length ≤ 9000000000000) (hl1 : LL lm) (hv1 : LPL w v1 lm) (ha : I64 a) :
    Calls Try.prog 11 #[v, v1, .int .i64 a] w fun e w' => e = .returned (.bool true) ∧ Below w.heap.size w w' := by
  have hD := Lib.hid (fun w1 (hb : Below w.heap.size w w1) => doneO v l w w1 hl (by omega) hv hb)
  obtain ⟨n, hn⟩ : ∃ n, l.length = n := ⟨_, rfl⟩
  obtain ⟨A, cap, rfl, _⟩ := EL.form hv hn
  rw [hn] at hD hz
  obtain ⟨n1, hn1⟩ : ∃ n, lm.length = n := ⟨_, rfl⟩
  obtain ⟨A1, cap1, rfl, hC1⟩ := EL.form hv1 hn1
  have hLB := Lib.hid (fun k (hk : k < n1) => hl1.at (k := k) (by omega))
  replace hC1 := Lib.hid hC1
  have hn19 : n1 ≤ 9223372036854775807 := by have := hl1.1; omega
  generalize doneG l = g at *
  clear hl hv hn hl1 hv1 hn1
  replace ha := Lib.hid ha
  go_enter Try.func11, Try.ntmps11
  go_wp2_with fail
  refine (awake18 _).mono ?_
  rintro e w1 ⟨rfl, hb1⟩
  go_wp2_with fail
  refine (hD.out _ hb1).mono ?_
  rintro e w2 ⟨B, M, rfl, t2⟩
  have hB2 := t2.bel
  clear hD
  by_cases hlong : 60 < n
  · have h1 : (60 : Int) < (n : Int) := by omega
    go_wp2_with fail
    go_ret
    exact ⟨rfl, hB2⟩
  have h1 : ¬ (60 : Int) < (n : Int) := by omega
  by_cases hlong1 : 60 < n1
  · have h2 : (60 : Int) < (n1 : Int) := by omega
    go_wp2_with fail
    go_ret
    exact ⟨rfl, hB2⟩
  have h2 : ¬ (60 : Int) < (n1 : Int) := by omega
  clear hB2
  have hM2 := t2.tab.ltM
  have hH := Lib.hid (heldO (lane := a) t2 (by omega))
  clear t2
  go_wp2_with fail
  refine hH.out.mono ?_
  clear hH
  rintro e w3 ⟨v3, X, rfl, ho3, hX, hXn, t3, _⟩
  obtain ⟨m, hm⟩ : ∃ m, X.length = m := ⟨_, rfl⟩
  obtain ⟨AX, capX, rfl, _⟩ := (ho3.el iE_len).form hm
  have hLk0 : Like a g g := fun x => Iff.rfl
  rw [hm] at hXn
  replace hm := Lib.hid hm
  replace hX := Lib.hid hX
  go_wp2_with fail
  go_loopw [10] (fun i wr => ∃ (k : Nat) (G : Gx), k ≤ n1 ∧ i = .int .i64 k ∧ TabO w wr B M (n + k) G ∧ OwnE 3 1 iE wr w2.heap.size (.slice AX m capX) X ∧ Hid (Like a g G)) (fun i _ => n1 + 1 - (intOf i).toNat)
  case atStart => exact ⟨0, g, Nat.zero_le _, rfl, t3, ho3, hLk0⟩
  case round =>
    clear t3 ho3 hLk0
    obtain ⟨k, G, hk, rfl, tr, hor, hLk⟩ := hrel
    by_cases hlt : k < n1
    · obtain ⟨g1, off1, rfl, hcap1, _, hg1, hcl⟩ := hC1.out wr k tr.bel hlt
      have c0 := hcl 0 (by omega)
      have c1 := hcl 1 (by omega)
      have c2 := hcl 2 (by omega)
      clear hcl
      rw [Nat.add_zero] at c0
      have hlt' : (k : Int) < (n1 : Int) := by omega
      have hlb := hLB.out k hlt
      generalize lm.getD k default = o at *
      obtain ⟨kd, key, lane⟩ := o
      replace c0 : wr.cell? ⟨g1, off1 + k * 3, none⟩ = some (.int .u8 (kd : Nat)) := c0
      replace c1 : wr.cell? ⟨g1, off1 + k * 3 + 1, none⟩ = some (.int .i64 key) := c1
      replace c2 : wr.cell? ⟨g1, off1 + k * 3 + 2, none⟩ = some (.int .i64 lane) := c2
      have hk1 : I64 key := ⟨hlb.2.1, hlb.2.2.1⟩
      have hl1 : I64 lane := ⟨hlb.2.2.2.1, hlb.2.2.2.2⟩
      clear hlb
      replace hk1 := Lib.hid hk1
      replace hl1 := Lib.hid hl1
      by_cases hla : lane = a
      · subst hla
        have t1 : (lane == lane) = true := by simp
        have hBr := tr.bel
        clear tr hor
        go_wp2_with fail
        go_ret
        exact ⟨rfl, hBr⟩
      have t1 : (lane == a) = false := by rw [beq_eq_false_iff_ne]; exact hla
      by_cases q0 : kd = 0
      · subst q0
        have hR := Lib.hid (hLk.out.lock (key := key) hla)
        have hCall := Lib.hid (fun (w' : World) (h : TabO w w' B M (n + k) G) (ho : OwnE 3 1 iE w' w2.heap.size (.slice AX m capX) X) => lockA h ho hM2 hk1.out hl1.out (by omega))
        clear hLk
        go_wp2_with fail
        refine wp_region_tail (S := (fun w' => w'.cell? ⟨g1, off1 + k * 3 + 1, none⟩ = some (.int .i64 key) ∧ w'.cell? ⟨g1, off1 + k * 3 + 2, none⟩ = some (.int .i64 lane) ∧ TabO w w' B M (n + k) G ∧ OwnE 3 1 iE w' w2.heap.size (.slice AX m capX) X)) (n := 11) (by kernel_rfl) ?_ (fun hHeld hInv => ?_) (by decide)
        · (try dsimp only)
          (first | assumption | (exact ⟨c1, c2, tr.keep ((Below.refl _ _).drew), hor.drew⟩))
        refine takeS 0 (v := ?_) (tailAt (by kernel_rfl)) hInv (by decide) rfl (by kernel_rfl) (by kernel_rfl) (by kernel_rfl) (fun _ _ _ h => h) (by rfl) (by assumption) ?_ (fun hInv2 => ?_)
        rotate_left
        · (intro w hSw; (try dsimp only at hSw); (try go_split_ands); go_simp <;> with_reducible rfl)
        clear hInv
        have hInv := hInv2
        clear hInv2
        try simp only [Act.put, List.setIfInBounds_toArray, List.set_cons_zero, List.set_cons_succ] at hInv ⊢
        refine takeS 1 (v := ?_) (tailAt (by kernel_rfl)) hInv (by decide) rfl (by kernel_rfl) (by kernel_rfl) (by kernel_rfl) (fun _ _ _ h => h) (by rfl) (by assumption) ?_ (fun hInv2 => ?_)
        rotate_left
        · (intro w hSw; (try dsimp only at hSw); (try go_split_ands); go_simp <;> with_reducible rfl)
        clear hInv
        have hInv := hInv2
        clear hInv2
        try simp only [Act.put, List.setIfInBounds_toArray, List.set_cons_zero, List.set_cons_succ] at hInv ⊢
        refine takeS 2 (v := ?_) (tailAt (by kernel_rfl)) hInv (by decide) rfl (by kernel_rfl) (by kernel_rfl) (by kernel_rfl) (fun _ _ _ h => h) (by rfl) (by assumption) ?_ (fun hInv2 => ?_)
        rotate_left
        · (intro w hSw; (try dsimp only at hSw); (try go_split_ands); go_simp <;> with_reducible rfl)
        clear hInv
        have hInv := hInv2
        clear hInv2
        try simp only [Act.put, List.setIfInBounds_toArray, List.set_cons_zero, List.set_cons_succ] at hInv ⊢
        refine takeS 3 (v := ?_) (tailAt (by kernel_rfl)) hInv (by decide) rfl (by kernel_rfl) (by kernel_rfl) (by kernel_rfl) (fun _ _ _ h => h) (by rfl) (by assumption) ?_ (fun hInv2 => ?_)
        rotate_left
        · (intro w hSw; (try dsimp only at hSw); (try go_split_ands); go_simp <;> with_reducible rfl)
        clear hInv
        have hInv := hInv2
        clear hInv2
        try simp only [Act.put, List.setIfInBounds_toArray, List.set_cons_zero, List.set_cons_succ] at hInv ⊢
        refine takeS 4 (v := ?_) (tailAt (by kernel_rfl)) hInv (by decide) rfl (by kernel_rfl) (by kernel_rfl) (by kernel_rfl) (fun _ _ _ h => h) (by rfl) (by assumption) ?_ (fun hInv2 => ?_)
        rotate_left
        · (intro w hSw; (try dsimp only at hSw); (try go_split_ands); go_simp <;> with_reducible rfl)
        clear hInv
        have hInv := hInv2
        clear hInv2
        try simp only [Act.put, List.setIfInBounds_toArray, List.set_cons_zero, List.set_cons_succ] at hInv ⊢
        refine takeS 5 (v := ?_) (tailAt (by kernel_rfl)) hInv (by decide) rfl (by kernel_rfl) (by kernel_rfl) (by kernel_rfl) (fun _ _ _ h => h) (by rfl) (by assumption) ?_ (fun hInv2 => ?_)
        rotate_left
        · (intro w hSw; (try dsimp only at hSw); (try go_split_ands); go_simp <;> with_reducible rfl)
        clear hInv
        have hInv := hInv2
        clear hInv2
        try simp only [Act.put, List.setIfInBounds_toArray, List.set_cons_zero, List.set_cons_succ] at hInv ⊢
        refine takeS 6 (v := ?_) (tailAt (by kernel_rfl)) hInv (by decide) rfl (by kernel_rfl) (by kernel_rfl) (by kernel_rfl) (fun _ _ _ h => h) (by rfl) (by assumption) ?_ (fun hInv2 => ?_)
        rotate_left
        · (intro w hSw; (try dsimp only at hSw); (try go_split_ands); go_simp <;> with_reducible rfl)
        clear hInv
        have hInv := hInv2
        clear hInv2
        try simp only [Act.put, List.setIfInBounds_toArray, List.set_cons_zero, List.set_cons_succ] at hInv ⊢
        refine takeS 7 (v := ?_) (tailAt (by kernel_rfl)) hInv (by decide) rfl (by kernel_rfl) (by kernel_rfl) (by kernel_rfl) (fun _ _ _ h => h) (by rfl) (by assumption) ?_ (fun hInv2 => ?_)
        rotate_left
        · (intro w hSw; (try dsimp only at hSw); (try go_split_ands); go_simp <;> with_reducible rfl)
        clear hInv
        have hInv := hInv2
        clear hInv2
        try simp only [Act.put, List.setIfInBounds_toArray, List.set_cons_zero, List.set_cons_succ] at hInv ⊢
        refine takeS 8 (v := ?_) (tailAt (by kernel_rfl)) hInv (by decide) rfl (by kernel_rfl) (by kernel_rfl) (by kernel_rfl) (fun _ _ _ h => h) (by rfl) (by assumption) ?_ (fun hInv2 => ?_)
        rotate_left
        · (intro w hSw; (try dsimp only at hSw); (try go_split_ands); go_simp <;> with_reducible rfl)
        clear hInv
        have hInv := hInv2
        clear hInv2
        try simp only [Act.put, List.setIfInBounds_toArray, List.set_cons_zero, List.set_cons_succ] at hInv ⊢
        refine takeS 9 (v := ?_) (tailAt (by kernel_rfl)) hInv (by decide) rfl (by kernel_rfl) (by kernel_rfl) (by kernel_rfl) (fun _ _ _ h => h) (by rfl) (by assumption) ?_ (fun hInv2 => ?_)
        rotate_left
        · (intro w hSw; (try dsimp only at hSw); (try go_split_ands); go_simp <;> with_reducible rfl)
        clear hInv
        have hInv := hInv2
        clear hInv2
        try simp only [Act.put, List.setIfInBounds_toArray, List.set_cons_zero, List.set_cons_succ] at hInv ⊢
        refine takeS 10 (v := ?_) (tailAt (by kernel_rfl)) hInv (by decide) rfl (by kernel_rfl) (by kernel_rfl) (by kernel_rfl) (fun _ _ _ h => h) (by rfl) (by assumption) ?_ (fun hInv2 => ?_)
        rotate_left
        · (intro w hSw; (try dsimp only at hSw); (try go_split_ands); go_simp <;> with_reducible rfl)
        clear hInv
        have hInv := hInv2
        clear hInv2
        try simp only [Act.put, List.setIfInBounds_toArray, List.set_cons_zero, List.set_cons_succ] at hInv ⊢
        refine lastS 11 rfl (by decide) (by kernel_rfl) (fun K hK => ?_)
        go_simp
        obtain ⟨r0, r1, rT, rO⟩ := id hHeld
        (with_reducible refine (hCall.out _ rT rO).mono ?_; rintro e w8 ⟨rfl, t8, ho8⟩)
        refine hK.out _ _ ?_
        clear hK K
        try simp only [Act.put, List.setIfInBounds_toArray, List.set_cons_zero, List.set_cons_succ]
        refine wpAnyS_done (by kernel_rfl) ?_ _
        clear hHeld hInv r0 r1 rT rO tr hor
        go_wp2_with fail
        go_roundw
        case rel => exact ⟨k + 1, _, by omega, by go_num, t8, ho8, hR.out⟩
        case measure => simp [intOf]; omega
      · have f0 : ((kd : Int) == (0 : Int)) = false := by rw [beq_eq_false_iff_ne]; omega
        have hR := Lib.hid (hLk.out.let hla)
        have hCall := Lib.hid (releaseK (lane := lane) tr hor hM2 (by omega))
        clear hLk tr hor
        go_wp2_with fail
        refine hCall.out.mono ?_
        clear hCall
        rintro e w8 ⟨J, rfl, _, _, t8, ho8⟩
        go_wp2_with fail
        go_roundw
        case rel => exact ⟨k + 1, _, by omega, by go_num, ⟨t8.tab.mono (by omega), t8.hB, t8.hM, t8.bel⟩, ho8, hR.out⟩
        case measure => simp [intOf]; omega
    · obtain rfl : k = n1 := by omega
      have hH := Lib.hid (heldO (lane := a) tr (by omega))
      have hX2 := Lib.hid (hLk.out.held hX.out)
      clear tr
      go_wp2_with fail
      refine hH.out.mono ?_
      clear hH
      rintro e w5 ⟨v5, Y, rfl, ho5, hY, _, t5, hb5⟩
      obtain rfl := hY.uniq hX2.out
      have ho3 := hor.keep hb5
      obtain ⟨_, _, hq, hCX⟩ := (ho3.el iE_len).form hm.out
      cases hq
      obtain ⟨AY, capY, rfl, hCY⟩ := (ho5.el iE_len).form hm.out
      have hI := Lib.hid (fun w1 (hb : Below w5.heap.size w5 w1) => ints_any _ _ Y Y w1 (by have := hm.out; omega) ((ho3.el iE_len).keep hb) ((ho5.el iE_len).keep hb))
      have hin := Lib.hid (fun q (h : q < m) => show G (Y.getD q default) = some a from (hY.mem _).1 (by rw [List.getD_eq_getElem?_getD, List.getElem?_eq_getElem (by have := hm.out; omega)]; exact List.getElem_mem _))
      have h64 := Lib.hid (fun q (h : q < m) => (t5.tab.got (hin.out q h)).1)
      have hown := Lib.hid (fun w1 (hb : Below w5.heap.size w5 w1) q (h : q < m) => (ownG_of (hin.out q h)) ▸ ownerO (t5.keep hb) (h64.out q h))
      have hinc := Lib.hid (fun p q (h : p < q) (h2 : q < m) => show Y.getD p default < Y.getD q default from by
        have hmm := hm.out
        rw [List.getD_eq_getElem?_getD, List.getElem?_eq_getElem (by omega), List.getD_eq_getElem?_getD, List.getElem?_eq_getElem (by omega)]
        exact List.pairwise_iff_getElem.1 hY.inc p q (by omega) (by omega) h)
      have hB5 := t5.bel
      replace hCY := Lib.hid hCY
      clear ho3 ho5 hY t5 hor hCX hb5 hX2 hX hLk
      go_wp2_with fail
      go_loopw [12] (fun i wr => ∃ q : Nat, q ≤ m ∧ i = .int .i64 q ∧ Below w5.heap.size w5 wr) (fun i _ => m + 1 - (intOf i).toNat)
      case atStart => exact ⟨0, Nat.zero_le _, rfl, Below.refl _ _⟩
      case round =>
        obtain ⟨q, hq, rfl, hBr⟩ := hrel
        by_cases hlt : q < m
        · obtain ⟨g2, off2, rfl, hcap2, _, hg2, hcl2⟩ := hCY.out wr q hBr hlt
          have d0 := hcl2 0 (by omega)
          rw [Nat.add_zero, Nat.mul_one] at d0
          have hlt' : (q : Int) < (m : Int) := by omega
          have hO := Lib.hid (fun w1 hb => hown.out w1 hb q hlt)
          clear hcl2
          by_cases q0 : q = 0
          · generalize Y.getD q default = x at *
            replace d0 : wr.cell? ⟨g2, off2 + q, none⟩ = some (.int .i64 x) := d0
            have t1 : (a != a) = false := by simp
            have t3 : ¬ (0 : Int) < (q : Int) := by omega
            have t3n : ¬ 0 < q := by omega
            clear q0
            go_wp2_with fail
            refine wp_region_held_drew (S := (fun w' => w'.cell? ⟨g2, off2 + q, none⟩ = some (.int .i64 x) ∧ Below w5.heap.size w5 w')) (by kernel_rfl) ?_ (fun hHeld => ?_)
            · (try dsimp only)
              (first | assumption | exact hHeld | (exact ⟨d0, hBr.drew⟩))
            refine takeL 0 (v := ?_) rfl (by kernel_rfl) (by kernel_rfl) (by kernel_rfl) (fun _ _ _ h => h) (by rfl) (by assumption) ?_ ?_
            rotate_left
            · (intro w hSw; (try dsimp only at hSw); obtain ⟨z0, zB⟩ := hSw; go_simp <;> with_reducible rfl)
            try simp only [Act.put, List.setIfInBounds_toArray, List.set_cons_zero, List.set_cons_succ]
            refine takeL 1 (v := ?_) rfl (by kernel_rfl) (by kernel_rfl) (by kernel_rfl) (fun _ _ _ h => h) (by rfl) (by assumption) ?_ ?_
            rotate_left
            · (intro w hSw; (try dsimp only at hSw); obtain ⟨z0, zB⟩ := hSw; go_simp <;> with_reducible rfl)
            try simp only [Act.put, List.setIfInBounds_toArray, List.set_cons_zero, List.set_cons_succ]
            refine takeL 2 (v := ?_) rfl (by kernel_rfl) (by kernel_rfl) (by kernel_rfl) (fun _ _ _ h => h) (by rfl) (by assumption) ?_ ?_
            rotate_left
            · (intro w hSw; (try dsimp only at hSw); obtain ⟨z0, zB⟩ := hSw; go_simp <;> with_reducible rfl)
            try simp only [Act.put, List.setIfInBounds_toArray, List.set_cons_zero, List.set_cons_succ]
            refine takeL 3 (v := ?_) rfl (by kernel_rfl) (by kernel_rfl) (by kernel_rfl) (fun _ _ _ h => h) (by rfl) (by assumption) ?_ ?_
            rotate_left
            · (intro w hSw; (try dsimp only at hSw); obtain ⟨z0, zB⟩ := hSw; go_simp <;> with_reducible rfl)
            try simp only [Act.put, List.setIfInBounds_toArray, List.set_cons_zero, List.set_cons_succ]
            refine takeL 4 (v := ?_) rfl (by kernel_rfl) (by kernel_rfl) (by kernel_rfl) (fun _ _ _ h => h) (by rfl) (by assumption) ?_ ?_
            rotate_left
            · (intro w hSw; (try dsimp only at hSw); obtain ⟨z0, zB⟩ := hSw; go_simp <;> with_reducible rfl)
            try simp only [Act.put, List.setIfInBounds_toArray, List.set_cons_zero, List.set_cons_succ]
            refine takeL 6 (v := ?_) rfl (by kernel_rfl) (by kernel_rfl) (by kernel_rfl) (fun _ _ _ h => h) (by rfl) (by assumption) ?_ ?_
            rotate_left
            · (intro w hSw; (try dsimp only at hSw); obtain ⟨z0, zB⟩ := hSw; go_simp <;> with_reducible rfl)
            try simp only [Act.put, List.setIfInBounds_toArray, List.set_cons_zero, List.set_cons_succ]
            refine oneL 5 rfl (by kernel_rfl) (fun K hK => ?_)
            go_simp
            (obtain ⟨_, hq⟩ := id hHeld; refine (hO.out _ hq).mono ?_; rintro e w8 ⟨rfl, rfl⟩)
            refine hK.out _ _ ?_ (fun hHeld2 => ?_)
            · (try dsimp only)
              (first | assumption | exact hHeld | (exact ⟨d0, hBr.drew⟩))
            clear hK K hHeld
            have hHeld := hHeld2
            clear hHeld2
            try simp only [Act.put, List.setIfInBounds_toArray, List.set_cons_zero, List.set_cons_succ]
            refine takeL 7 (v := ?_) rfl (by kernel_rfl) (by kernel_rfl) (by kernel_rfl) (fun _ _ _ h => h) (by rfl) (by assumption) ?_ ?_
            rotate_left
            · (intro w hSw; (try dsimp only at hSw); obtain ⟨z0, zB⟩ := hSw; go_simp <;> with_reducible rfl)
            try simp only [Act.put, List.setIfInBounds_toArray, List.set_cons_zero, List.set_cons_succ]
            refine takeL 8 (v := ?_) rfl (by kernel_rfl) (by kernel_rfl) (by kernel_rfl) (fun _ _ _ h => h) (by rfl) (by assumption) ?_ ?_
            rotate_left
            · (intro w hSw; (try dsimp only at hSw); obtain ⟨z0, zB⟩ := hSw; go_simp <;> with_reducible rfl)
            try simp only [Act.put, List.setIfInBounds_toArray, List.set_cons_zero, List.set_cons_succ]
            refine takeL 9 (v := ?_) rfl (by kernel_rfl) (by kernel_rfl) (by kernel_rfl) (fun _ _ _ h => h) (by rfl) (by assumption) ?_ ?_
            rotate_left
            · (intro w hSw; (try dsimp only at hSw); obtain ⟨z0, zB⟩ := hSw; go_simp <;> with_reducible rfl)
            try simp only [Act.put, List.setIfInBounds_toArray, List.set_cons_zero, List.set_cons_succ]
            refine takeL 10 (v := ?_) rfl (by kernel_rfl) (by kernel_rfl) (by kernel_rfl) (fun _ _ _ h => h) (by rfl) (by assumption) ?_ ?_
            rotate_left
            · (intro w hSw; (try dsimp only at hSw); obtain ⟨z0, zB⟩ := hSw; go_simp <;> with_reducible rfl)
            try simp only [Act.put, List.setIfInBounds_toArray, List.set_cons_zero, List.set_cons_succ]
            refine takeL 11 (v := ?_) rfl (by kernel_rfl) (by kernel_rfl) (by kernel_rfl) (fun _ _ _ h => h) (by rfl) (by assumption) ?_ ?_
            rotate_left
            · (intro w hSw; (try dsimp only at hSw); obtain ⟨z0, zB⟩ := hSw; go_simp <;> with_reducible rfl)
            try simp only [Act.put, List.setIfInBounds_toArray, List.set_cons_zero, List.set_cons_succ]
            refine idleL 12 rfl (by kernel_rfl) (by kernel_rfl) (by kernel_rfl) (fun _ _ _ h => h) (by rfl) (by assumption) ?_
            try simp only [Act.put, List.setIfInBounds_toArray, List.set_cons_zero, List.set_cons_succ]
            refine idleL 13 rfl (by kernel_rfl) (by kernel_rfl) (by kernel_rfl) (fun _ _ _ h => h) (by rfl) (by assumption) ?_
            try simp only [Act.put, List.setIfInBounds_toArray, List.set_cons_zero, List.set_cons_succ]
            refine idleL 14 rfl (by kernel_rfl) (by kernel_rfl) (by kernel_rfl) (fun _ _ _ h => h) (by rfl) (by assumption) ?_
            try simp only [Act.put, List.setIfInBounds_toArray, List.set_cons_zero, List.set_cons_succ]
            refine idleL 15 rfl (by kernel_rfl) (by kernel_rfl) (by kernel_rfl) (fun _ _ _ h => h) (by rfl) (by assumption) ?_
            try simp only [Act.put, List.setIfInBounds_toArray, List.set_cons_zero, List.set_cons_succ]
            refine idleL 16 rfl (by kernel_rfl) (by kernel_rfl) (by kernel_rfl) (fun _ _ _ h => h) (by rfl) (by assumption) ?_
            try simp only [Act.put, List.setIfInBounds_toArray, List.set_cons_zero, List.set_cons_succ]
            refine idleL 17 rfl (by kernel_rfl) (by kernel_rfl) (by kernel_rfl) (fun _ _ _ h => h) (by rfl) (by assumption) ?_
            try simp only [Act.put, List.setIfInBounds_toArray, List.set_cons_zero, List.set_cons_succ]
            refine idleL 18 rfl (by kernel_rfl) (by kernel_rfl) (by kernel_rfl) (fun _ _ _ h => h) (by rfl) (by assumption) ?_
            try simp only [Act.put, List.setIfInBounds_toArray, List.set_cons_zero, List.set_cons_succ]
            refine idleL 19 rfl (by kernel_rfl) (by kernel_rfl) (by kernel_rfl) (fun _ _ _ h => h) (by rfl) (by assumption) ?_
            try simp only [Act.put, List.setIfInBounds_toArray, List.set_cons_zero, List.set_cons_succ]
            refine idleL 20 rfl (by kernel_rfl) (by kernel_rfl) (by kernel_rfl) (fun _ _ _ h => h) (by rfl) (by assumption) ?_
            try simp only [Act.put, List.setIfInBounds_toArray, List.set_cons_zero, List.set_cons_succ]
            refine idleL 21 rfl (by kernel_rfl) (by kernel_rfl) (by kernel_rfl) (fun _ _ _ h => h) (by rfl) (by assumption) ?_
            try simp only [Act.put, List.setIfInBounds_toArray, List.set_cons_zero, List.set_cons_succ]
            refine takeL 22 (v := ?_) rfl (by kernel_rfl) (by kernel_rfl) (by kernel_rfl) (fun _ _ _ h => h) (by rfl) (by assumption) ?_ ?_
            rotate_left
            · (intro w hSw; (try dsimp only at hSw); obtain ⟨z0, zB⟩ := hSw; go_simp <;> with_reducible rfl)
            try simp only [Act.put, List.setIfInBounds_toArray, List.set_cons_zero, List.set_cons_succ]
            refine takeL 23 (v := ?_) rfl (by kernel_rfl) (by kernel_rfl) (by kernel_rfl) (fun _ _ _ h => h) (by rfl) (by assumption) ?_ ?_
            rotate_left
            · (intro w hSw; (try dsimp only at hSw); obtain ⟨z0, zB⟩ := hSw; go_simp <;> with_reducible rfl)
            try simp only [Act.put, List.setIfInBounds_toArray, List.set_cons_zero, List.set_cons_succ]
            refine wpAnyH_done (by kernel_rfl) ?_ _
            obtain ⟨_, hBd⟩ := hHeld
            go_wp2_with fail
            go_roundw
            case rel => exact ⟨q + 1, by omega, by go_num, hBd⟩
            case measure => simp [intOf]; omega
          · obtain ⟨p, hp⟩ : ∃ p, q = p + 1 := ⟨q - 1, by omega⟩
            obtain ⟨g3, off3, hA3, _, _, _, hcl3⟩ := hCY.out wr p hBr (by omega)
            have e0 := hcl3 0 (by omega)
            rw [Nat.add_zero, Nat.mul_one] at e0
            cases hA3
            clear hcl3
            have hlt3 := hinc.out p q (by omega) hlt
            generalize Y.getD q default = x at *
            generalize Y.getD p default = y at *
            replace d0 : wr.cell? ⟨g2, off2 + q, none⟩ = some (.int .i64 x) := d0
            replace e0 : wr.cell? ⟨g2, off2 + p, none⟩ = some (.int .i64 y) := e0
            have t1 : (a != a) = false := by simp
            have t2 : ¬ x ≤ y := by omega
            have t3 : (0 : Int) < (q : Int) := by omega
            have t3n : 0 < q := by omega
            have i1 : IntKind.i64.wrap ((q : Int) - 1) = (p : Int) := by rw [IntKind.wrap_i64]; omega
            have hpm : p < m := by omega
            replace hp := Lib.hid hp
            replace hlt3 := Lib.hid hlt3
            go_wp2_with fail
            refine wp_region_held_drew (S := (fun w' => w'.cell? ⟨g2, off2 + q, none⟩ = some (.int .i64 x) ∧ w'.cell? ⟨g2, off2 + p, none⟩ = some (.int .i64 y) ∧ Below w5.heap.size w5 w')) (by kernel_rfl) ?_ (fun hHeld => ?_)
            · (try dsimp only)
              (first | assumption | exact hHeld | (exact ⟨d0, e0, hBr.drew⟩))
            refine takeL 0 (v := ?_) rfl (by kernel_rfl) (by kernel_rfl) (by kernel_rfl) (fun _ _ _ h => h) (by rfl) (by assumption) ?_ ?_
            rotate_left
            · (intro w hSw; (try dsimp only at hSw); obtain ⟨z0, z1, zB⟩ := hSw; go_simp <;> with_reducible rfl)
            try simp only [Act.put, List.setIfInBounds_toArray, List.set_cons_zero, List.set_cons_succ]
            refine takeL 1 (v := ?_) rfl (by kernel_rfl) (by kernel_rfl) (by kernel_rfl) (fun _ _ _ h => h) (by rfl) (by assumption) ?_ ?_
            rotate_left
            · (intro w hSw; (try dsimp only at hSw); obtain ⟨z0, z1, zB⟩ := hSw; go_simp <;> with_reducible rfl)
            try simp only [Act.put, List.setIfInBounds_toArray, List.set_cons_zero, List.set_cons_succ]
            refine takeL 2 (v := ?_) rfl (by kernel_rfl) (by kernel_rfl) (by kernel_rfl) (fun _ _ _ h => h) (by rfl) (by assumption) ?_ ?_
            rotate_left
            · (intro w hSw; (try dsimp only at hSw); obtain ⟨z0, z1, zB⟩ := hSw; go_simp <;> with_reducible rfl)
            try simp only [Act.put, List.setIfInBounds_toArray, List.set_cons_zero, List.set_cons_succ]
            refine takeL 3 (v := ?_) rfl (by kernel_rfl) (by kernel_rfl) (by kernel_rfl) (fun _ _ _ h => h) (by rfl) (by assumption) ?_ ?_
            rotate_left
            · (intro w hSw; (try dsimp only at hSw); obtain ⟨z0, z1, zB⟩ := hSw; go_simp <;> with_reducible rfl)
            try simp only [Act.put, List.setIfInBounds_toArray, List.set_cons_zero, List.set_cons_succ]
            refine takeL 4 (v := ?_) rfl (by kernel_rfl) (by kernel_rfl) (by kernel_rfl) (fun _ _ _ h => h) (by rfl) (by assumption) ?_ ?_
            rotate_left
            · (intro w hSw; (try dsimp only at hSw); obtain ⟨z0, z1, zB⟩ := hSw; go_simp <;> with_reducible rfl)
            try simp only [Act.put, List.setIfInBounds_toArray, List.set_cons_zero, List.set_cons_succ]
            refine takeL 6 (v := ?_) rfl (by kernel_rfl) (by kernel_rfl) (by kernel_rfl) (fun _ _ _ h => h) (by rfl) (by assumption) ?_ ?_
            rotate_left
            · (intro w hSw; (try dsimp only at hSw); obtain ⟨z0, z1, zB⟩ := hSw; go_simp <;> with_reducible rfl)
            try simp only [Act.put, List.setIfInBounds_toArray, List.set_cons_zero, List.set_cons_succ]
            refine oneL 5 rfl (by kernel_rfl) (fun K hK => ?_)
            go_simp
            (obtain ⟨_, _, hq⟩ := id hHeld; refine (hO.out _ hq).mono ?_; rintro e w8 ⟨rfl, rfl⟩)
            refine hK.out _ _ ?_ (fun hHeld2 => ?_)
            · (try dsimp only)
              (first | assumption | exact hHeld | (exact ⟨d0, e0, hBr.drew⟩))
            clear hK K hHeld
            have hHeld := hHeld2
            clear hHeld2
            try simp only [Act.put, List.setIfInBounds_toArray, List.set_cons_zero, List.set_cons_succ]
            refine takeL 7 (v := ?_) rfl (by kernel_rfl) (by kernel_rfl) (by kernel_rfl) (fun _ _ _ h => h) (by rfl) (by assumption) ?_ ?_
            rotate_left
            · (intro w hSw; (try dsimp only at hSw); obtain ⟨z0, z1, zB⟩ := hSw; go_simp <;> with_reducible rfl)
            try simp only [Act.put, List.setIfInBounds_toArray, List.set_cons_zero, List.set_cons_succ]
            refine takeL 8 (v := ?_) rfl (by kernel_rfl) (by kernel_rfl) (by kernel_rfl) (fun _ _ _ h => h) (by rfl) (by assumption) ?_ ?_
            rotate_left
            · (intro w hSw; (try dsimp only at hSw); obtain ⟨z0, z1, zB⟩ := hSw; go_simp <;> with_reducible rfl)
            try simp only [Act.put, List.setIfInBounds_toArray, List.set_cons_zero, List.set_cons_succ]
            refine takeL 9 (v := ?_) rfl (by kernel_rfl) (by kernel_rfl) (by kernel_rfl) (fun _ _ _ h => h) (by rfl) (by assumption) ?_ ?_
            rotate_left
            · (intro w hSw; (try dsimp only at hSw); obtain ⟨z0, z1, zB⟩ := hSw; go_simp <;> with_reducible rfl)
            try simp only [Act.put, List.setIfInBounds_toArray, List.set_cons_zero, List.set_cons_succ]
            refine takeL 10 (v := ?_) rfl (by kernel_rfl) (by kernel_rfl) (by kernel_rfl) (fun _ _ _ h => h) (by rfl) (by assumption) ?_ ?_
            rotate_left
            · (intro w hSw; (try dsimp only at hSw); obtain ⟨z0, z1, zB⟩ := hSw; go_simp <;> with_reducible rfl)
            try simp only [Act.put, List.setIfInBounds_toArray, List.set_cons_zero, List.set_cons_succ]
            refine takeL 11 (v := ?_) rfl (by kernel_rfl) (by kernel_rfl) (by kernel_rfl) (fun _ _ _ h => h) (by rfl) (by assumption) ?_ ?_
            rotate_left
            · (intro w hSw; (try dsimp only at hSw); obtain ⟨z0, z1, zB⟩ := hSw; go_simp <;> with_reducible rfl)
            try simp only [Act.put, List.setIfInBounds_toArray, List.set_cons_zero, List.set_cons_succ]
            refine takeL 12 (v := ?_) rfl (by kernel_rfl) (by kernel_rfl) (by kernel_rfl) (fun _ _ _ h => h) (by rfl) (by assumption) ?_ ?_
            rotate_left
            · (intro w hSw; (try dsimp only at hSw); obtain ⟨z0, z1, zB⟩ := hSw; go_simp <;> with_reducible rfl)
            try simp only [Act.put, List.setIfInBounds_toArray, List.set_cons_zero, List.set_cons_succ]
            refine takeL 13 (v := ?_) rfl (by kernel_rfl) (by kernel_rfl) (by kernel_rfl) (fun _ _ _ h => h) (by rfl) (by assumption) ?_ ?_
            rotate_left
            · (intro w hSw; (try dsimp only at hSw); obtain ⟨z0, z1, zB⟩ := hSw; go_simp <;> with_reducible rfl)
            try simp only [Act.put, List.setIfInBounds_toArray, List.set_cons_zero, List.set_cons_succ]
            refine takeL 14 (v := ?_) rfl (by kernel_rfl) (by kernel_rfl) (by kernel_rfl) (fun _ _ _ h => h) (by rfl) (by assumption) ?_ ?_
            rotate_left
            · (intro w hSw; (try dsimp only at hSw); obtain ⟨z0, z1, zB⟩ := hSw; go_simp <;> with_reducible rfl)
            try simp only [Act.put, List.setIfInBounds_toArray, List.set_cons_zero, List.set_cons_succ]
            refine takeL 15 (v := ?_) rfl (by kernel_rfl) (by kernel_rfl) (by kernel_rfl) (fun _ _ _ h => h) (by rfl) (by assumption) ?_ ?_
            rotate_left
            · (intro w hSw; (try dsimp only at hSw); obtain ⟨z0, z1, zB⟩ := hSw; go_simp <;> with_reducible rfl)
            try simp only [Act.put, List.setIfInBounds_toArray, List.set_cons_zero, List.set_cons_succ]
            refine takeL 16 (v := ?_) rfl (by kernel_rfl) (by kernel_rfl) (by kernel_rfl) (fun _ _ _ h => h) (by rfl) (by assumption) ?_ ?_
            rotate_left
            · (intro w hSw; (try dsimp only at hSw); obtain ⟨z0, z1, zB⟩ := hSw; go_simp <;> with_reducible rfl)
            try simp only [Act.put, List.setIfInBounds_toArray, List.set_cons_zero, List.set_cons_succ]
            refine takeL 17 (v := ?_) rfl (by kernel_rfl) (by kernel_rfl) (by kernel_rfl) (fun _ _ _ h => h) (by rfl) (by assumption) ?_ ?_
            rotate_left
            · (intro w hSw; (try dsimp only at hSw); obtain ⟨z0, z1, zB⟩ := hSw; go_simp <;> with_reducible rfl)
            try simp only [Act.put, List.setIfInBounds_toArray, List.set_cons_zero, List.set_cons_succ]
            refine takeL 18 (v := ?_) rfl (by kernel_rfl) (by kernel_rfl) (by kernel_rfl) (fun _ _ _ h => h) (by rfl) (by assumption) ?_ ?_
            rotate_left
            · (intro w hSw; (try dsimp only at hSw); obtain ⟨z0, z1, zB⟩ := hSw; go_simp <;> with_reducible rfl)
            try simp only [Act.put, List.setIfInBounds_toArray, List.set_cons_zero, List.set_cons_succ]
            refine takeL 19 (v := ?_) rfl (by kernel_rfl) (by kernel_rfl) (by kernel_rfl) (fun _ _ _ h => h) (by rfl) (by assumption) ?_ ?_
            rotate_left
            · (intro w hSw; (try dsimp only at hSw); obtain ⟨z0, z1, zB⟩ := hSw; go_simp <;> with_reducible rfl)
            try simp only [Act.put, List.setIfInBounds_toArray, List.set_cons_zero, List.set_cons_succ]
            refine takeL 20 (v := ?_) rfl (by kernel_rfl) (by kernel_rfl) (by kernel_rfl) (fun _ _ _ h => h) (by rfl) (by assumption) ?_ ?_
            rotate_left
            · (intro w hSw; (try dsimp only at hSw); obtain ⟨z0, z1, zB⟩ := hSw; go_simp <;> with_reducible rfl)
            try simp only [Act.put, List.setIfInBounds_toArray, List.set_cons_zero, List.set_cons_succ]
            refine takeL 21 (v := ?_) rfl (by kernel_rfl) (by kernel_rfl) (by kernel_rfl) (fun _ _ _ h => h) (by rfl) (by assumption) ?_ ?_
            rotate_left
            · (intro w hSw; (try dsimp only at hSw); obtain ⟨z0, z1, zB⟩ := hSw; go_simp <;> with_reducible rfl)
            try simp only [Act.put, List.setIfInBounds_toArray, List.set_cons_zero, List.set_cons_succ]
            refine takeL 22 (v := ?_) rfl (by kernel_rfl) (by kernel_rfl) (by kernel_rfl) (fun _ _ _ h => h) (by rfl) (by assumption) ?_ ?_
            rotate_left
            · (intro w hSw; (try dsimp only at hSw); obtain ⟨z0, z1, zB⟩ := hSw; go_simp <;> with_reducible rfl)
            try simp only [Act.put, List.setIfInBounds_toArray, List.set_cons_zero, List.set_cons_succ]
            refine takeL 23 (v := ?_) rfl (by kernel_rfl) (by kernel_rfl) (by kernel_rfl) (fun _ _ _ h => h) (by rfl) (by assumption) ?_ ?_
            rotate_left
            · (intro w hSw; (try dsimp only at hSw); obtain ⟨z0, z1, zB⟩ := hSw; go_simp <;> with_reducible rfl)
            try simp only [Act.put, List.setIfInBounds_toArray, List.set_cons_zero, List.set_cons_succ]
            refine wpAnyH_done (by kernel_rfl) ?_ _
            obtain ⟨_, _, hBd⟩ := hHeld
            go_wp2_with fail
            go_roundw
            case rel => exact ⟨q + 1, by omega, by go_num, hBd⟩
            case measure => simp [intOf]; omega
        · obtain rfl : q = m := by omega
          have hI2 := hI.out wr hBr
          simp only [decide_true] at hI2
          replace hI2 := Lib.hid hI2
          clear hI
          go_wp2_with fail
          refine hI2.out.mono ?_
          rintro e w9 ⟨rfl, hb9⟩
          have hB9 := hB5.trans ((hBr.trans (hb9.mono hBr.size)).mono hB5.size)
          go_wp2_with fail
          go_ret
          exact ⟨rfl, hB9⟩
end Go.Proofs.Ytibhahbimoiaaaa
