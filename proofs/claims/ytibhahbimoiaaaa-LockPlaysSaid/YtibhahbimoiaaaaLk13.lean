/-
  Layer 18 (lock): a table of the call's own; the chapter's example.
-/
import Derived.Test.YtibhahbimoiaaaaLk12
import Derived.Test.YtibhahbimoiaaaaLk9
set_option linter.unusedVariables false
set_option linter.unusedSimpArgs false
namespace Go.Proofs.Ytibhahbimoiaaaa
open Go.RowKit Go.ChangeShapes Go.WideShapes Go.Deep Go.Maps

/-- the table lies in memory that is newer than w0, and of what was there nothing has turned -/
structure TabO (w0 w : World) (B M n : Nat) (g : Gx) : Prop where
  tab : Tab w B M n g
  hB : w0.heap.size ≤ B
  hM : w0.heap.size ≤ M
  bel : Below w0.heap.size w0 w
theorem TabO.keep {w0 w w' : World} {B M n : Nat} {g : Gx} (h : TabO w0 w B M n g) (hb : Below w.heap.size w w') : TabO w0 w' B M n g := ⟨h.tab.keep hb, h.hB, h.hM, h.bel.trans (hb.mono h.bel.size)⟩
theorem TabO.turned {w0 w w' : World} {B M n n' : Nat} {g g' : Gx} (h : TabO w0 w B M n g) (ht : Tab w' B M n' g') (hg : w.grownBy w' (some M)) : TabO w0 w' B M n' g' := ⟨ht, h.hB, h.hM, h.bel.trans (grown_far hg h.hM h.bel.size)⟩
theorem TabO.start {w0 w : World} {B M n : Nat} {g : Gx} (h : TabO w0 w B M n g) {w1 : World} (hb : Below w1.heap.size w1 w0) : TabO w1 w B M n g := ⟨h.tab, Nat.le_trans hb.size h.hB, Nat.le_trans hb.size h.hM, hb.trans (h.bel.mono hb.size)⟩
theorem newO (w0 w : World) (hb : Below w0.heap.size w0 w) : Calls Try.prog 30 #[] w fun e w' => ∃ B M, e = .returned (.pointer (some ⟨B, 0, none⟩)) ∧ TabO w0 w' B M 0 (fun _ => none) := by
  refine (New_any w).mono ?_
  rintro e w' ⟨rfl, ht, hb'⟩
  have := hb.size
  exact ⟨_, _, rfl, ht, by omega, by omega, hb.trans (hb'.mono hb.size)⟩
theorem doneO (v : Value) (l : List Lx) (w0 w : World) (hl : LL l) (hlen : l.length ≤ 10000000000000) (hv : LPL w0 v l) (hb : Below w0.heap.size w0 w) :
    Calls Try.prog 40 #[v] w fun e w' => ∃ B M, e = .returned (.pointer (some ⟨B, 0, none⟩)) ∧ TabO w0 w' B M l.length (doneG l) := by
  refine (done_any v l w hl hlen (hv.keep hb)).mono ?_
  rintro e w' ⟨B, M, rfl, ht, hB, hM, hb'⟩
  have := hb.size
  exact ⟨_, _, rfl, ht, by omega, by omega, hb.trans (hb'.mono hb.size)⟩
section
variable {w0 w : World} {B M n : Nat} {g : Gx} {key lane : Int}
theorem lockO (h : TabO w0 w B M n g) (hk : I64 key) (hl : I64 lane) (hn : n ≤ 10000000000000) :
    Calls Try.prog 31 #[.pointer (some ⟨B, 0, none⟩), .int .i64 key, .int .i64 lane] w fun e w' => e = .returned (.bool (freeB g key lane)) ∧ TabO w0 w' B M (n + 1) (lockG g key lane) := by
  refine (Lock_any B M n g key lane w h.tab hk hl (by unfold maxLen; omega)).mono ?_
  rintro e w' ⟨rfl, ht, hg⟩
  exact ⟨rfl, h.turned ht hg⟩
theorem lockYes (h : TabO w0 w B M n g) (hk : I64 key) (hl : I64 lane) (hn : n ≤ 10000000000000) (hf : g key = none ∨ g key = some lane) :
    Calls Try.prog 31 #[.pointer (some ⟨B, 0, none⟩), .int .i64 key, .int .i64 lane] w fun e w' => e = .returned (.bool true) ∧ TabO w0 w' B M (n + 1) (putG g key lane) := by
  have := lockO h hk hl hn
  rw [(lock_free hf).1, (lock_free hf).2] at this
  exact this
theorem lockNo (h : TabO w0 w B M n g) (hk : I64 key) (hl : I64 lane) (hn : n ≤ 10000000000000) (hf : ¬ (g key = none ∨ g key = some lane)) :
    Calls Try.prog 31 #[.pointer (some ⟨B, 0, none⟩), .int .i64 key, .int .i64 lane] w fun e w' => e = .returned (.bool false) ∧ TabO w0 w' B M (n + 1) g := by
  have := lockO h hk hl hn
  rw [(lock_not hf).1, (lock_not hf).2] at this
  exact this
theorem ownerO (h : TabO w0 w B M n g) (hk : I64 key) :
    Calls Try.prog 35 #[.pointer (some ⟨B, 0, none⟩), .int .i64 key] w fun e w' => e = .returned (.int .i64 (ownG g key)) ∧ w' = w := Owner_any B M n g key w h.tab hk
theorem ownG_of {c : Int} (h : g key = some c) : ownG g key = c := by unfold ownG; rw [h]
theorem ownG_none (h : g key = none) : ownG g key = -1 := by unfold ownG; rw [h]
theorem heldO (h : TabO w0 w B M n g) (hn : n ≤ 10000000000000) :
    Calls Try.prog 38 #[.pointer (some ⟨B, 0, none⟩), .int .i64 lane] w fun e w' => ∃ v L, e = .returned v ∧ OwnE 3 1 iE w' w.heap.size v L ∧ HeldIs g lane L ∧ L.length ≤ n ∧ TabO w0 w' B M n g ∧ Below w.heap.size w w' := by
  refine (Held_any B M n g lane w h.tab hn).mono ?_
  rintro e w' ⟨v, L, rfl, ho, hL, hLn, hb⟩
  exact ⟨v, L, rfl, ho, hL, hLn, h.keep hb, hb⟩
theorem releaseO (h : TabO w0 w B M n g) (hn : n ≤ 10000000000000) :
    Calls Try.prog 33 #[.pointer (some ⟨B, 0, none⟩), .int .i64 lane] w fun e w' => ∃ L, e = .returned (.int .i64 ((L.length : Nat) : Int)) ∧ HeldIs g lane L ∧ L.length ≤ n ∧ TabO w0 w' B M n (letG g lane) := by
  refine (Release_any B M n g lane w h.tab hn).mono ?_
  rintro e w' ⟨L, rfl, hL, hLn, ht, hg⟩
  exact ⟨L, rfl, hL, hLn, h.turned ht hg⟩
end
theorem i64_small {x : Int} (h : -1000 ≤ x ∧ x ≤ 1000) : I64 x := ⟨by omega, by omega⟩
theorem held_one {g : Gx} {k lane : Int} (h1 : g k = some lane) (h2 : ∀ x, g x = some lane → x = k) {L : List Int} (h : HeldIs g lane L) : L = [k] :=
  h.uniq ⟨List.pairwise_singleton _ _, fun x => by rw [List.mem_singleton]; exact ⟨fun e => by rw [e]; exact h1, h2 x⟩⟩

set_option maxRecDepth 10000 in
set_option maxHeartbeats 2000000 in
theorem awake18 (w : World) : Calls Try.prog 29 #[] w fun e w' => e = .returned (.bool true) ∧ Below w.heap.size w w' := by
  have n1 := Lib.hid (i64_small (x := 1) (by omega))
  have n2 := Lib.hid (i64_small (x := 2) (by omega))
  have n5 := Lib.hid (i64_small (x := 5) (by omega))
  have h2 := Lib.hid (show ¬ (putG (fun _ => none) 5 1 5 = none ∨ putG (fun _ => none) 5 1 5 = some 2) from by simp [putG])
  have h3 := Lib.hid (fun (L : List Int) (h : HeldIs (putG (fun _ => none) 5 1) 1 L) => held_one (k := 5) (by simp [putG]) (fun x hx => by
    unfold putG at hx
    by_cases e : x = 5
    · exact e
    · rw [if_neg e] at hx; cases hx) h)
  have h4 := Lib.hid (show letG (putG (fun _ => none) 5 1) 1 5 = none from by simp [letG, putG])
  have h5 := Lib.hid (show ownG (putG (letG (putG (fun _ => none) 5 1) 1) 5 2) 5 = 2 from ownG_of (by simp [putG]))
  have h6 := Lib.hid (fun (L : List Int) (h : HeldIs (putG (letG (putG (fun _ => none) 5 1) 1) 5 2) 2 L) => held_one (k := 5) (by simp [putG]) (fun x hx => by
    unfold putG at hx
    by_cases e : x = 5
    · exact e
    · rw [if_neg e] at hx
      simp [letG, e] at hx) h)
  go_enter Try.func29, Try.ntmps29
  go_wp2_with fail
  refine (newO w _ (Below.refl _ _)).mono ?_
  rintro e w1 ⟨B, M, rfl, t1⟩
  go_wp2_with fail
  refine (lockYes t1 n5.out n1.out (by omega) (.inl rfl)).mono ?_
  clear t1
  rintro e w2 ⟨rfl, t2⟩
  go_wp2_with fail
  refine (lockNo t2 n5.out n2.out (by omega) h2.out).mono ?_
  clear t2
  rintro e w3 ⟨rfl, t3⟩
  go_wp2_with fail
  refine (releaseO t3 (by omega)).mono ?_
  clear t3
  rintro e w4 ⟨L, rfl, hL, _, t4⟩
  have hL' := h3.out L hL
  subst hL'
  clear hL
  go_wp2_with fail
  refine (lockYes t4 n5.out n2.out (by omega) (.inl h4.out)).mono ?_
  clear t4
  rintro e w5 ⟨rfl, t5⟩
  go_wp2_with fail
  refine (ownerO t5 n5.out).mono ?_
  rw [h5.out]
  rintro e w6 ⟨rfl, rfl⟩
  go_wp2_with fail
  refine (heldO t5 (by omega)).mono ?_
  rintro e w7 ⟨v, L, rfl, ho, hL, _, t7, hb7⟩
  have hL' := h6.out L hL
  subst hL'
  clear hL t5 hb7
  obtain ⟨A, cap, rfl, _⟩ := (ho.el iE_len).form (n := 1) rfl
  have hlit : EL 1 iE (w7.alloc (.cells #[.int .i64 5] (3 : Nat))) (.slice (some ⟨w7.heap.size, 0, none⟩) 1 1) [5] := (OwnE.lit 3 iE_len w7 [5] #[.int .i64 5] rfl (by simp)).el iE_len
  have hb8 : Below w7.heap.size w7 (w7.alloc (.cells #[.int .i64 5] (3 : Nat))) := (Below.refl _ _).alloc (Nat.le_refl _) _
  have hI := ints_any _ _ _ _ _ (by simp) ((ho.el iE_len).keep hb8) hlit
  have t8 := Lib.hid (t7.keep hb8)
  clear t7 ho hlit hb8
  go_wp2_with fail
  refine hI.mono ?_
  rintro e w9 ⟨rfl, hb9⟩
  go_wp2_with fail
  go_ret
  exact ⟨rfl, t8.out.bel.trans (hb9.mono t8.out.bel.size)⟩
end Go.Proofs.Ytibhahbimoiaaaa
