/-
  Package oid: Parse, Name.
-/
import Derived.Test.YtdblioggncnapaaDoorOd3
set_option linter.unusedVariables false
set_option linter.unusedSimpArgs false
set_option maxRecDepth 100000
namespace Go.Proofs.YtdblioggncnapaaDoor
open Go.Lib Go.Shelf Go.RowKit
def C3 (w : World) (b : Nat) (x y z : Value) : Prop := w.cell? ⟨b, 0, none⟩ = some x ∧ w.cell? ⟨b, 1, none⟩ = some y ∧ w.cell? ⟨b, 2, none⟩ = some z
theorem C3.lt {w : World} {b : Nat} {x y z : Value} (h : C3 w b x y z) : b < w.heap.size := World.block_lt_of_cell? w _ h.1
theorem C3.keep {W w1 : World} {b : Nat} {x y z : Value} (h : C3 W b x y z) (hb : Below W.heap.size W w1) : C3 w1 b x y z :=
  ⟨by rw [(bcell hb).1 _ _ h.lt]; exact h.1, by rw [(bcell hb).1 _ _ h.lt]; exact h.2.1, by rw [(bcell hb).1 _ _ h.lt]; exact h.2.2⟩
theorem C3.new (w : World) (x y z : Value) (t : TypeId) : C3 (w.alloc (.cells #[x, y, z] t)) w.heap.size x y z := by
  refine ⟨?_, ?_, ?_⟩ <;> simp [go_sem]
theorem C3.alloc {W : World} {b : Nat} {x y z : Value} (h : C3 W b x y z) (o : Obj) : C3 (W.alloc o) b x y z :=
  h.keep ((Below.refl _ _).alloc (Nat.le_refl _) _)
def F3 (w : World) (b : Nat) : Prop := w.frozen? ⟨b, 0, none⟩ = false ∧ w.frozen? ⟨b, 1, none⟩ = false ∧ w.frozen? ⟨b, 2, none⟩ = false
theorem F3.keep {W w1 : World} {b : Nat} (h : F3 W b) (hl : b < W.heap.size) (hb : Below W.heap.size W w1) : F3 w1 b :=
  ⟨by rw [(bcell hb).2 _ _ hl]; exact h.1, by rw [(bcell hb).2 _ _ hl]; exact h.2.1, by rw [(bcell hb).2 _ _ hl]; exact h.2.2⟩
theorem F3.new (w : World) (x y z : Value) (t : TypeId) : F3 (w.alloc (.cells #[x, y, z] t)) w.heap.size := by
  refine ⟨?_, ?_, ?_⟩ <;> simp [go_sem]
theorem number_l (p : List UInt8) (m : Nat) (hm : 9 ≤ m) (hm64 : m < 18446744073709551616) (w : World) (hs : p.length < 4294967281) :
    Calls Tryd.prog 24 #[.string ⟨p.toArray⟩, .int .u64 m] w fun e w' => e = .returned (.tuple #[.int .u64 (numC p m).1, .bool (numC p m).2]) ∧ Below w.heap.size w w' :=
  number_any ⟨p.toArray⟩ m hm hm64 w hs
theorem numC_le (l : List UInt8) (m : Nat) : (numC l m).1 ≤ m := by
  unfold numC
  split
  · split
    · assumption
    · exact Nat.zero_le _
  · exact Nat.zero_le _
/-- a name, as a value -/
def nV (a t n : Int) : Value := .agg #[.int .i64 a, .int .i64 t, .int .u64 n]
def pV : Option (Nat × Nat × Nat) → Value
  | some (a, t, n) => nV a t n
  | none => nV 0 0 0
theorem parse_three {l p q r : List UInt8} (h : splitD l = [p, q, r]) : parseO l = if (numC p 2147483647).2 && (numC q 2147483647).2 && (numC r 18446744073709551615).2 then some ((numC p 2147483647).1, (numC q 2147483647).1, (numC r 18446744073709551615).1) else none := by
  unfold parseO; rw [h]
theorem parse_not {l : List UInt8} (h : ¬ (splitD l).length = 3) : parseO l = none := by
  unfold parseO
  split
  · rename_i e; rw [e] at h; exact absurd rfl h
  · rfl
theorem three_of {α : Type} {L : List α} (h : L.length = 3) : ∃ a b c, L = [a, b, c] := by
  match L, h with
  | [a, b, c], _ => exact ⟨a, b, c, rfl⟩
set_option maxHeartbeats 1000000 in
theorem parse_any (s : ByteArray) (w : World) (hs : s.size < 4294967281) :
    Calls Tryd.prog 16 #[.string s] w fun e w' => e = .returned (.tuple #[pV (parseO s.data.toList), .bool (parseO s.data.toList).isSome]) ∧ Below w.heap.size w w' := by
  have hll : s.data.toList.length = s.size := by rw [Lib.size_eq]
  have hS := Lib.hid (fun w => split_any s w hs)
  obtain ⟨l, hl⟩ : ∃ l, s.data.toList = l := ⟨_, rfl⟩
  rw [hl] at hS hll ⊢
  by_cases h3 : (splitD l).length = 3
  · have hlen := split_len l
    obtain ⟨p, q, r, h⟩ := three_of h3
    have hP := parse_three h
    rw [h] at hS hlen
    have hp : p.length < 4294967281 := by have := hlen p (by simp); omega
    have hq : q.length < 4294967281 := by have := hlen q (by simp); omega
    have hr : r.length < 4294967281 := by have := hlen r (by simp); omega
    have hN1 := Lib.hid (fun w => number_l p 2147483647 (by decide) (by decide) w hp)
    have hN2 := Lib.hid (fun w => number_l q 2147483647 (by decide) (by decide) w hq)
    have hN3 := Lib.hid (fun w => number_l r 18446744073709551615 (by decide) (by decide) w hr)
    have l1 := numC_le p 2147483647
    have l2 := numC_le q 2147483647
    have l3 := numC_le r 18446744073709551615
    generalize numC p 2147483647 = x1 at *
    generalize numC q 2147483647 = x2 at *
    generalize numC r 18446744073709551615 = x3 at *
    obtain ⟨a, k1⟩ := x1
    obtain ⟨b, k2⟩ := x2
    obtain ⟨c, k3⟩ := x3
    simp only at l1 l2 l3 hP hN1 hN2 hN3
    rw [hP]
    clear hP hlen h h3 hp hq hr hl hll hs
    replace l1 := Lib.hid l1
    replace l2 := Lib.hid l2
    replace l3 := Lib.hid l3
    go_enter Tryd.func16, Tryd.ntmps16
    go_wp2_with fail
    refine (hS.out _).mono ?_
    rintro e w1 ⟨rfl, hw⟩
    have hR := C3.new w (.int .i64 0) (.int .i64 0) (.int .u64 0) 36
    have hF := F3.new w (.int .i64 0) (.int .i64 0) (.int .u64 0) 36
    have hb0 : Below w.heap.size w (w.alloc (.cells #[.int .i64 0, .int .i64 0, .int .u64 0] 36)) := (Below.refl _ _).alloc (Nat.le_refl _) _
    generalize (w.alloc (.cells #[.int .i64 0, .int .i64 0, .int .u64 0] 36)) = w0 at hR hF hb0 hw ⊢
    have hC : C3 w1 w0.heap.size (.string ⟨p.toArray⟩) (.string ⟨q.toArray⟩) (.string ⟨r.toArray⟩) := by rw [hw]; exact C3.new _ _ _ _ _
    have hb : Below w0.heap.size w0 w1 := by rw [hw]; exact (Below.refl _ _).alloc (Nat.le_refl _) _
    clear hw
    have hlt := hR.lt
    replace hF := hF.keep hlt hb
    replace hR := hR.keep hb
    have hB := hb0.trans (hb.mono (by have := hb0.size; omega))
    clear hb hb0
    obtain ⟨g, hg⟩ : ∃ g, w0.heap.size = g := ⟨_, rfl⟩
    rw [hg] at hC ⊢
    have hgl : w.heap.size < g := by omega
    clear hg
    obtain ⟨c0, c1, c2⟩ := id hC
    go_wp2_with fail
    refine (hN1.out _).mono ?_
    rintro e w2 ⟨rfl, hb⟩
    clear c0 c1 c2
    replace hC := hC.keep hb
    replace hF := hF.keep hR.lt hb
    replace hR := hR.keep hb
    replace hB := hB.trans (hb.mono (by have := hB.size; omega))
    clear hb
    obtain ⟨c0, c1, c2⟩ := id hC
    go_wp2_with fail
    refine (hN2.out _).mono ?_
    rintro e w3 ⟨rfl, hb⟩
    clear c0 c1 c2
    replace hC := hC.keep hb
    replace hF := hF.keep hR.lt hb
    replace hR := hR.keep hb
    replace hB := hB.trans (hb.mono (by have := hB.size; omega))
    clear hb
    obtain ⟨c0, c1, c2⟩ := id hC
    go_wp2_with fail
    refine (hN3.out _).mono ?_
    rintro e w4 ⟨rfl, hb⟩
    clear c0 c1 c2
    replace hC := hC.keep hb
    replace hF := hF.keep hR.lt hb
    replace hR := hR.keep hb
    replace hB := hB.trans (hb.mono (by have := hB.size; omega))
    clear hb
    obtain ⟨d0, d1, d2⟩ := id hR
    obtain ⟨f0, f1, f2⟩ := id hF
    have hS3 : (∃ x y z : Int, IntKind.i64.wrap (a : Int) = (a : Int) ∧ IntKind.i64.wrap (b : Int) = (b : Int)) := ⟨0, 0, 0, by rw [IntKind.wrap_i64]; have := l1.out; omega, by rw [IntKind.wrap_i64]; have := l2.out; omega⟩
    obtain ⟨_, _, _, e1, e2⟩ := hS3
    have hst : ∀ x y z : Int, ∃ w5, w5 = ((w4.setCell ⟨w.heap.size, 0, none⟩ (.int .i64 x)).setCell ⟨w.heap.size, 1, none⟩ (.int .i64 y)).setCell ⟨w.heap.size, 2, none⟩ (.int .u64 z) ∧ C3 w5 w.heap.size (.int .i64 x) (.int .i64 y) (.int .u64 z) ∧ Below w.heap.size w w5 := fun x y z => ⟨_, rfl, by refine ⟨?_, ?_, ?_⟩ <;> simp [go_sem, d0, d1, d2], (((hB.setCell (by simp) _).setCell (by simp) _).setCell (by simp) _)⟩
    cases k1 with
    | false =>
      go_wp2_with fail
      obtain ⟨w5, h5, ⟨t0, t1, t2⟩, hb5⟩ := hst 0 0 0
      rw [← h5]
      refine bodyPost_ret (v := .tuple #[nV 0 0 0, .bool false]) (by simp [nV, results, Tryd.results16, go_sem, t0, t1, t2]) rfl ⟨rfl, hb5⟩
    | true =>
      cases k2 with
      | false =>
        go_wp2_with fail
        obtain ⟨w5, h5, ⟨t0, t1, t2⟩, hb5⟩ := hst 0 0 0
        rw [← h5]
        refine bodyPost_ret (v := .tuple #[nV 0 0 0, .bool false]) (by simp [nV, results, Tryd.results16, go_sem, t0, t1, t2]) rfl ⟨rfl, hb5⟩
      | true =>
        cases k3 with
        | false =>
          go_wp2_with fail
          obtain ⟨w5, h5, ⟨t0, t1, t2⟩, hb5⟩ := hst 0 0 0
          rw [← h5]
          refine bodyPost_ret (v := .tuple #[nV 0 0 0, .bool false]) (by simp [nV, results, Tryd.results16, go_sem, t0, t1, t2]) rfl ⟨rfl, hb5⟩
        | true =>
          go_wp2_with fail
          obtain ⟨w5, h5, ⟨t0, t1, t2⟩, hb5⟩ := hst a b c
          rw [← h5]
          refine bodyPost_ret (v := .tuple #[nV a b c, .bool true]) (by simp [nV, results, Tryd.results16, go_sem, t0, t1, t2]) rfl ⟨rfl, hb5⟩
  · have hP := parse_not h3
    rw [hP]
    obtain ⟨n, hn⟩ : ∃ n, (splitD l).length = n := ⟨_, rfl⟩
    rw [hn] at hS h3
    have h3' : ¬ (n : Int) = 3 := by omega
    clear hP hn h3 hl hll hs
    go_enter Tryd.func16, Tryd.ntmps16
    go_wp2_with fail
    refine (hS.out _).mono ?_
    rintro e w1 ⟨rfl, hw⟩
    have hb : Below (w.alloc (.cells #[.int .i64 0, .int .i64 0, .int .u64 0] 36)).heap.size (w.alloc (.cells #[.int .i64 0, .int .i64 0, .int .u64 0] 36)) w1 := by rw [hw]; exact (Below.refl _ _).alloc (Nat.le_refl _) _
    clear hw
    have hR := (C3.new w (.int .i64 0) (.int .i64 0) (.int .u64 0) 36).keep hb
    have hF := (F3.new w (.int .i64 0) (.int .i64 0) (.int .u64 0) 36).keep (by simp) hb
    have hB : Below w.heap.size w w1 := ((Below.refl _ _).alloc (Nat.le_refl _) _).trans (hb.mono (by simp))
    clear hb
    obtain ⟨d0, d1, d2⟩ := hR
    obtain ⟨f0, f1, f2⟩ := hF
    go_wp2_with fail
    refine bodyPost_ret (v := .tuple #[nV 0 0 0, .bool false]) (by simp [nV, results, Tryd.results16, go_sem, d0, d1, d2]) rfl ⟨rfl, ?_⟩
    go_grown
end Go.Proofs.YtdblioggncnapaaDoor
