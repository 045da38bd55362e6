/-
  Layer 18 (lock): the code's Held.
-/
import Derived.Test.YtibhahbimoiaaaaLk7
set_option linter.unusedVariables false
set_option linter.unusedSimpArgs false
namespace Go.Proofs.Ytibhahbimoiaaaa
open Go.RowKit Go.ChangeShapes Go.WideShapes Go.Deep Go.Maps

/-- the lane's keys that have come so far -/
structure Coll (g : Gx) (lane : Int) (left : Lit → Bool) (J : List Int) : Prop where
  nd : J.Nodup
  mem : ∀ x, x ∈ J ↔ g x = some lane ∧ left (.int .i64 x) = false
theorem Coll.start {D : DataW Unit} {g : Gx} (hp : Pic D g) (lane : Int) : Coll g lane (Maps.has D) [] :=
  ⟨List.nodup_nil, fun x => by
    constructor
    · intro h; cases h
    · rintro ⟨h1, h2⟩
      rw [hp.has x (hp.got x _ h1).1, h1] at h2
      cases h2⟩
theorem came {D : DataW Unit} {g : Gx} (hp : Pic D g) {x c : Int} (hw : I64 x) (hat : ∀ zd, D.atKey (.int .i64 x) zd = .lit (.int .i64 c)) : g x = some c := by
  have h1 := has_true_of_atKey hat
  rw [hp.has x hw] at h1
  cases hg : g x with
  | none => rw [hg] at h1; cases h1
  | some c' =>
    have h2 := (hp.got x c' hg).2.2 .nil
    rw [hat] at h2
    simp only [DataW.lit.injEq, Lit.int.injEq, true_and] at h2
    rw [h2]
theorem left_iff {left : Lit → Bool} {x y : Int} : (left (.int .i64 y) && !(Lit.int .i64 y).sameKey (.int .i64 x)) = false ↔ left (.int .i64 y) = false ∨ y = x := by
  by_cases e : y = x
  · subst e
    simp [WideAt.sameKey_self (show WideAt.IsKeyLit (.int .i64 y) from trivial)]
  · rw [Maps.sameKey_ne (lit_ne e)]
    simp [e]
theorem Coll.yes {g : Gx} {lane : Int} {left : Lit → Bool} {J : List Int} {x : Int} (h : Coll g lane left J) (hl : left (.int .i64 x) = true) (hx : g x = some lane) : Coll g lane (fun z => left z && !z.sameKey (.int .i64 x)) (J ++ [x]) := by
  have hn : x ∉ J := fun hj => by have := ((h.mem x).1 hj).2; rw [hl] at this; cases this
  refine ⟨List.nodup_append.2 ⟨h.nd, by simp, fun a ha b hb e => hn (by simp at hb; rw [← hb, ← e]; exact ha)⟩, fun y => ?_⟩
  rw [List.mem_append, h.mem y, left_iff, List.mem_singleton]
  constructor
  · rintro (⟨h1, h2⟩ | rfl)
    · exact ⟨h1, .inl h2⟩
    · exact ⟨hx, .inr rfl⟩
  · rintro ⟨h1, h2 | rfl⟩
    · exact .inl ⟨h1, h2⟩
    · exact .inr rfl
theorem Coll.no {g : Gx} {lane c : Int} {left : Lit → Bool} {J : List Int} {x : Int} (h : Coll g lane left J) (hx : g x = some c) (hc : c ≠ lane) : Coll g lane (fun z => left z && !z.sameKey (.int .i64 x)) J := by
  refine ⟨h.nd, fun y => ?_⟩
  rw [h.mem y, left_iff]
  constructor
  · rintro ⟨h1, h2⟩; exact ⟨h1, .inl h2⟩
  · rintro ⟨h1, h2 | rfl⟩
    · exact ⟨h1, h2⟩
    · rw [hx] at h1; injection h1 with h1; exact absurd h1 hc
theorem Coll.done {g : Gx} {lane : Int} {left : Lit → Bool} {J : List Int} (h : Coll g lane left J) (hl : ∀ kl, left kl = false) : HeldIs g lane (sortI J) :=
  ⟨sortI_inc h.nd, fun x => by rw [sortI_mem, h.mem x, hl]; simp⟩

set_option maxHeartbeats 2000000 in
theorem Held_any (B M n : Nat) (g : Gx) (lane : Int) (w : World) (ht : Tab w B M n g) (hn : n ≤ 10000000000000) :
    Calls Try.prog 38 #[.pointer (some ⟨B, 0, none⟩), .int .i64 lane] w fun e w' => ∃ v L, e = .returned v ∧ OwnE 3 1 iE w' w.heap.size v L ∧ HeldIs g lane L ∧ L.length ≤ n ∧ Below w.heap.size w w' := by
  obtain ⟨D, ho, hp⟩ := ht.map
  have c0 := ht.cell
  have hM := ht.ltM
  have hD := ho.size_le
  replace hp := Lib.hid hp
  clear ht
  go_enter Try.func38, Try.ntmps38
  go_wp2_with (first
    | (at_range; refine wpList_range_own _ rfl _ 79 rfl 3 3 klaw Try.underlying79 _ M n D rfl ho ?_; intro w0 hrg0 hg0 hs0)
    | go_in)
  go_frame
  go_loopw [5] (fun v wr => ∃ (left : Lit → Bool) (cnt : Nat) (J : List Int), wr.ranges Try.prog 3 (plainElem (H := Unit) Try.prog 3) M w.heap.size n D left cnt ∧ OwnE 3 1 iE wr (w.heap.size + 1) v J ∧ Hid (Coll g lane left J) ∧ J.length + cnt ≤ n ∧ Hid (w.grownBy wr none) ∧ w.heap.size + 1 ≤ wr.heap.size)
    (fun _ wr => wr.rangeLeft M w.heap.size)
  case atStart => exact ⟨_, _, [], hrg0, OwnE.nil _ _ _ _ _, Coll.start hp.out lane, by simpa using hD, hg0, by omega⟩
  case round =>
    obtain ⟨left, cnt, J, hrg, hown, hC, hlen, hgw, hsz⟩ := hrel
    clear hrg0 hg0 hs0
    go_wp2_with (first
      | (at_next; refine wpList_next_ranges_ii _ rfl _ rfl 3 3 .i64 .i64 klaw Try.underlying3 Try.underlying3 M w.heap.size n _ _ _ rfl hrg ?_ ?_)
      | go_in)
    · intro hc0 hl0
      have hS := Sort_own u5 J _ wr hown (by omega)
      have hB := hown.lt
      have hR := Lib.hid (hC.out.done hl0)
      clear hrg hC
      go_wp2_with (go_at_call 54; refine hS.mono ?_; rintro e w' ⟨rfl, ho', hg'⟩)
      go_ret
      exact ⟨_, _, rfl, ho'.mono (by omega), hR.out, by rw [sortI_len]; omega, (Below.refl _ _).trans ⟨(hgw.out.andThen hg' (fun j hj => .inl (by have := (hB j hj).1; omega))).os, (hgw.out.andThen hg' (fun j hj => .inl (by have := (hB j hj).1; omega))).tape, (hgw.out.andThen hg' (fun j hj => .inl (by have := (hB j hj).1; omega))).output, (hgw.out.andThen hg' (fun j hj => .inl (by have := (hB j hj).1; omega))).size, fun k hk => (hgw.out.andThen hg' (fun j hj => .inl (by have := (hB j hj).1; omega))).block k hk (by simp)⟩⟩
    · intro x c w1 cnt1 hwx hwc hlx hat hrg1 hlt hg1 hs1 hen
      have hcm := came hp.out (wf_I64 hwx) hat
      have hgw1 := Lib.hid (hgw.out.andThen hg1 (fun j hj => by cases hj; exact .inl (Nat.le_refl _)))
      have hown1 := hown.kept hg1 (by
        cases hv : u5.ownBlock with
        | none => exact .inl rfl
        | some k => exact .inr (by have := (hown.lt k hv).1; simp; omega))
      have hsz1 : w.heap.size + 1 ≤ w1.heap.size := by omega
      have hleft := Lib.hid (show wr.rangeLeft M w.heap.size = cnt from hrg.left_eq)
      clear hs1 hat hown hg1 hrg hgw
      by_cases q : c = lane
      · subst q
        have t1 : (c == c) = true := by simp
        have hC2 := Lib.hid (hC.out.yes hlx hcm)
        obtain ⟨v', w4, hrun, ho4, hg4, _⟩ := appI hown1 x (by omega) (by omega)
        have hrg4 := (hrg1.alloc (.cells #[.int .i64 x] (3 : Nat))).kept hg4 (fun e => by have := (hown1.lt M e.symm).1; omega) (fun e => by have := (hown1.lt _ e.symm).1; omega)
        have hgw4 := Lib.hid ((hgw1.out.andThen (World.grownBy_alloc w1 (.cells #[.int .i64 x] (3 : Nat)) none) (fun j hj => by cases hj)).andThen hg4 (fun j hj => .inl (by have := (hown1.lt j hj).1; omega)))
        have hsz4 : w.heap.size + 1 ≤ w4.heap.size := by have := hg4.size; simp at this; omega
        clear hC hcm hown1 hgw1 hg4 hrg1
        go_wp2_with (first | (at_builtin; refine wpList_append_run rfl _ _ 59 rfl _ _ _ rfl rfl hrun ?_) | go_in)
        clear hrun
        go_roundw
        case rel => exact ⟨_, cnt1, _, hrg4, ho4, hC2.out, by simp; omega, hgw4.out, hsz4⟩
        case measure => rw [hrg4.left_eq, hleft.out]; omega
      · have t1 : (c == lane) = false := by rw [beq_eq_false_iff_ne]; exact q
        have hC2 := Lib.hid (hC.out.no hcm q)
        clear hC hcm
        go_wp2_with fail
        go_roundw
        case rel => exact ⟨_, cnt1, _, hrg1, hown1, hC2.out, by omega, hgw1.out, hsz1⟩
        case measure => rw [hrg1.left_eq, hleft.out]; omega
end Go.Proofs.Ytibhahbimoiaaaa
