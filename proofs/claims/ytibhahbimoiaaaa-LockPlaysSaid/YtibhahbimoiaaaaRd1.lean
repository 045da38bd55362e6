/-
  Operations in memory; which of them can't be; the word of one.
-/
import Derived.Test.YtibhahbimoiaaaaGs
import Derived.Test.YtibhahbimoiaaaaField
import Derived.Test.YtibhahbimoiaaaaRegX
set_option linter.unusedVariables false
set_option linter.unusedSimpArgs false
namespace Go.Proofs.Ytibhahbimoiaaaa
open Go.RowKit Go.ChangeShapes Go.WideShapes Go.Deep

abbrev Ox := Int × Int × Nat
def opE (o : Ox) : List Value := [.int .i64 o.1, .int .i64 o.2.1, .int .u64 (o.2.2 : Nat)]
def opV (o : Ox) : Value := .agg #[.int .i64 o.1, .int .i64 o.2.1, .int .u64 (o.2.2 : Nat)]
theorem opE_len (o : Ox) : (opE o).length = 3 := rfl
def OB (o : Ox) : Prop := -9223372036854775808 ≤ o.1 ∧ o.1 ≤ 9223372036854775807 ∧ -9223372036854775808 ≤ o.2.1 ∧ o.2.1 ≤ 9223372036854775807 ∧ o.2.2 < 18446744073709551616
theorem infoOp : (Try.prog.info? 38).map (fun i => (i.zero, i.size, i.bytes)) = some (some (.agg #[.int .i64 0, .int .i64 0, .int .u64 0]), 3, 24) := by kernel_rfl
theorem opT : ElT Try.prog 22 38 3 24 opE :=
  ⟨Try.underlying22, by obtain ⟨i0, h1, h2, h3, h4⟩ := info_parts infoOp; exact ⟨i0, _, h1, h2, h3, h4, rfl⟩, opE_len, fun x u hu => by simp only [opE, List.mem_cons, List.not_mem_nil, or_false] at hu; rcases hu with rfl | rfl | rfl <;> rfl, by decide, by decide⟩
/-- a list of operations that came in -/
def OPL (w : World) (v : Value) (l : List Ox) : Prop := EL 3 opE w v l
theorem OPL.keep {w w1 : World} {v : Value} {l : List Ox} (h : OPL w v l) (hb : Below w.heap.size w w1) : OPL w1 v l := EL.keep h hb
theorem OPL.form {w : World} {v : Value} {l : List Ox} {n : Nat} (h : OPL w v l) (hn : l.length = n) : ∃ A cap, v = .slice A n cap ∧
    ∀ w1 i, Below w.heap.size w w1 → i < n → ∃ g off, A = some ⟨g, off, none⟩ ∧ n ≤ cap ∧ g < w.heap.size ∧ g < w1.heap.size ∧ w1.cell? ⟨g, off + i * 3, none⟩ = some (.int .i64 (l.getD i default).1) ∧ w1.cell? ⟨g, off + i * 3 + 1, none⟩ = some (.int .i64 (l.getD i default).2.1) ∧ w1.cell? ⟨g, off + i * 3 + 2, none⟩ = some (.int .u64 ((l.getD i default).2.2 : Nat)) := by
  obtain ⟨A, cap, hv, h⟩ := EL.form h hn
  refine ⟨A, cap, hv, fun w1 i hb hi => ?_⟩
  obtain ⟨g, off, hA, h1, h2, h3, hc⟩ := h w1 i hb hi
  exact ⟨g, off, hA, h1, h2, h3, hc 0 (by omega), hc 1 (by omega), hc 2 (by omega)⟩
def C3 (w : World) (b : Nat) (x y z : Value) : Prop := w.cell? ⟨b, 0, none⟩ = some x ∧ w.cell? ⟨b, 1, none⟩ = some y ∧ w.cell? ⟨b, 2, none⟩ = some z
theorem C3.lt {w : World} {b : Nat} {x y z : Value} (h : C3 w b x y z) : b < w.heap.size := World.block_lt_of_cell? w _ h.1
theorem C3.keep {W w1 : World} {b : Nat} {x y z : Value} (h : C3 W b x y z) (hb : Below W.heap.size W w1) : C3 w1 b x y z :=
  ⟨by rw [(bcell hb).1 _ _ h.lt]; exact h.1, by rw [(bcell hb).1 _ _ h.lt]; exact h.2.1, by rw [(bcell hb).1 _ _ h.lt]; exact h.2.2⟩
theorem C3.new (w : World) (x y z : Value) (t : TypeId) : C3 (w.alloc (.cells #[x, y, z] t)) w.heap.size x y z := by
  refine ⟨?_, ?_, ?_⟩ <;> simp [go_sem]
theorem C3.alloc {W : World} {b : Nat} {x y z : Value} (h : C3 W b x y z) (o : Obj) : C3 (W.alloc o) b x y z := h.keep ((Below.refl _ _).alloc (Nat.le_refl _) _)

def wrongB (o : Ox) : Bool := decide (o.1 < 0) || decide (2 < o.1) || decide (o.2.1 < 0) || decide (65536 ≤ o.2.1)
theorem wrongB_f {o : Ox} (h : wrongB o = false) : 0 ≤ o.1 ∧ o.1 ≤ 2 ∧ 0 ≤ o.2.1 ∧ o.2.1 < 65536 := by
  simp only [wrongB, Bool.or_eq_false_iff, decide_eq_false_iff_not] at h; omega
theorem wrong_any (o : Ox) (w : World) : Calls Try.prog 45 #[opV o] w fun e w' => e = .returned (.bool (wrongB o)) ∧ Below w.heap.size w w' := by
  obtain ⟨k, a, v⟩ := o
  unfold opV
  simp only []
  have fin : ∀ b : Bool, b = wrongB (k, a, v) → ∀ w1, Below w.heap.size w w1 → Ending.returned (.bool b) = .returned (.bool (wrongB (k, a, v))) ∧ Below w.heap.size w w1 := fun b h w1 hb => ⟨by rw [h], hb⟩
  replace fin := Lib.hid fin
  have hB : Below w.heap.size w (w.alloc (.cells #[.int .i64 k, .int .i64 a, .int .u64 (v : Nat)] (38 : Nat))) := (Below.refl _ _).alloc (Nat.le_refl _) _
  obtain ⟨c0, c1, c2⟩ := C3.new w (.int .i64 k) (.int .i64 a) (.int .u64 (v : Nat)) (38 : Nat)
  by_cases h1 : k < 0
  · have e := Lib.hid (show true = wrongB (k, a, v) from by simp [wrongB, h1])
    go_enter Try.func45, Try.ntmps45
    go_wp2_with fail
    go_ret
    first | exact fin.out _ e.out _ hB | exact fin.out _ (by rw [← e.out]; simp; omega) _ hB
  by_cases h2 : 2 < k
  · have e := Lib.hid (show true = wrongB (k, a, v) from by simp [wrongB, h2])
    go_enter Try.func45, Try.ntmps45
    go_wp2_with fail
    go_ret
    first | exact fin.out _ e.out _ hB | exact fin.out _ (by rw [← e.out]; simp; omega) _ hB
  by_cases h3 : a < 0
  · have e := Lib.hid (show true = wrongB (k, a, v) from by simp [wrongB, h3])
    go_enter Try.func45, Try.ntmps45
    go_wp2_with fail
    go_ret
    first | exact fin.out _ e.out _ hB | exact fin.out _ (by rw [← e.out]; simp; omega) _ hB
  by_cases h4 : 65536 ≤ a
  · have e := Lib.hid (show true = wrongB (k, a, v) from by simp [wrongB, h4])
    go_enter Try.func45, Try.ntmps45
    go_wp2_with fail
    go_ret
    first | exact fin.out _ e.out _ hB | exact fin.out _ (by rw [← e.out]; simp; omega) _ hB
  · have e := Lib.hid (show false = wrongB (k, a, v) from by simp [wrongB]; omega)
    go_enter Try.func45, Try.ntmps45
    go_wp2_with fail
    go_ret
    first | exact fin.out _ e.out _ hB | exact fin.out _ (by rw [← e.out]; simp; omega) _ hB
theorem can_any (o : Ox) (w : World) : Calls Try.prog 43 #[opV o] w fun e w' => e = .returned (.bool (!wrongB o)) ∧ Below w.heap.size w w' := by
  obtain ⟨k, a, v⟩ := o
  unfold opV
  simp only []
  have fin : ∀ b : Bool, b = !wrongB (k, a, v) → ∀ w1, Below w.heap.size w w1 → Ending.returned (.bool b) = .returned (.bool (!wrongB (k, a, v))) ∧ Below w.heap.size w w1 := fun b h w1 hb => ⟨by rw [h], hb⟩
  replace fin := Lib.hid fin
  have hB : Below w.heap.size w (w.alloc (.cells #[.int .i64 k, .int .i64 a, .int .u64 (v : Nat)] (38 : Nat))) := (Below.refl _ _).alloc (Nat.le_refl _) _
  obtain ⟨c0, c1, c2⟩ := C3.new w (.int .i64 k) (.int .i64 a) (.int .u64 (v : Nat)) (38 : Nat)
  by_cases h1 : k < 0
  · have e := Lib.hid (show false = !wrongB (k, a, v) from by simp [wrongB, h1])
    have h1' : ¬ (0 ≤ k) := by omega
    go_enter Try.func43, Try.ntmps43
    go_wp2_with fail
    go_ret
    first | exact fin.out _ e.out _ hB | exact fin.out _ (by rw [← e.out]; simp; omega) _ hB
  by_cases h2 : 2 < k
  · have e := Lib.hid (show false = !wrongB (k, a, v) from by simp [wrongB, h2])
    have h1' : 0 ≤ k := by omega
    go_enter Try.func43, Try.ntmps43
    go_wp2_with fail
    go_ret
    first | exact fin.out _ e.out _ hB | exact fin.out _ (by rw [← e.out]; simp; omega) _ hB
  by_cases h3 : a < 0
  · have e := Lib.hid (show false = !wrongB (k, a, v) from by simp [wrongB, h3])
    have h1' : 0 ≤ k := by omega
    have h2' : k ≤ 2 := by omega
    have h3' : ¬ (0 ≤ a) := by omega
    go_enter Try.func43, Try.ntmps43
    go_wp2_with fail
    go_ret
    first | exact fin.out _ e.out _ hB | exact fin.out _ (by rw [← e.out]; simp; omega) _ hB
  by_cases h4 : 65536 ≤ a
  · have e := Lib.hid (show false = !wrongB (k, a, v) from by simp [wrongB, h4])
    have h1' : 0 ≤ k := by omega
    have h2' : k ≤ 2 := by omega
    have h3' : 0 ≤ a := by omega
    have h4' : 65535 < a := by omega
    go_enter Try.func43, Try.ntmps43
    go_wp2_with fail
    go_ret
    first | exact fin.out _ e.out _ hB | exact fin.out _ (by rw [← e.out]; simp; omega) _ hB
  · have e := Lib.hid (show true = !wrongB (k, a, v) from by simp [wrongB]; omega)
    have h1' : 0 ≤ k := by omega
    have h2' : k ≤ 2 := by omega
    have h3' : 0 ≤ a := by omega
    have h4' : a ≤ 65535 := by omega
    go_enter Try.func43, Try.ntmps43
    go_wp2_with fail
    go_ret
    first | exact fin.out _ e.out _ hB | exact fin.out _ (by rw [← e.out]; simp; omega) _ hB

def wordOp (o : Ox) : Int := 4 * o.2.1 + o.1
theorem put_k (k : Int) (w : World) (h0 : 0 ≤ k) (h1 : k ≤ 2) :
    Calls Try.prog 55 #[.int .u64 0, .int .i64 0, .int .i64 2, .int .u64 k] w fun e w' => e = .returned (.int .u64 k) ∧ w = w' := by
  refine (put_yes 0 0 2 k w (by omega) (by omega) (by omega) (by omega) (by omega) (by omega) h0 (by omega)).mono ?_
  rintro e w' ⟨rfl, rfl⟩
  refine ⟨?_, rfl⟩
  obtain ⟨V, rfl⟩ := Int.eq_ofNat_of_zero_le h0
  have e : V % 4 = V := Nat.mod_eq_of_lt (by omega)
  simp [putI, putN, e]
theorem put_a (k a : Int) (w : World) (h0 : 0 ≤ k) (h1 : k ≤ 2) (h2 : 0 ≤ a) (h3 : a < 65536) :
    Calls Try.prog 55 #[.int .u64 k, .int .i64 2, .int .i64 20, .int .u64 a] w fun e w' => e = .returned (.int .u64 (4 * a + k)) ∧ w = w' := by
  refine (put_yes k 2 20 a w (by omega) (by omega) (by omega) (by omega) (by omega) (by omega) h2 (by omega)).mono ?_
  rintro e w' ⟨rfl, rfl⟩
  refine ⟨?_, rfl⟩
  obtain ⟨V, rfl⟩ := Int.eq_ofNat_of_zero_le h2
  obtain ⟨K, rfl⟩ := Int.eq_ofNat_of_zero_le h0
  have e : V % 1048576 = V := Nat.mod_eq_of_lt (by omega)
  have e2 : K % 4 = K := Nat.mod_eq_of_lt (by omega)
  have e3 : K / 4194304 = 0 := by omega
  simp [putI, putN, e, e2, e3]
  omega
set_option maxHeartbeats 1000000 in
theorem first_any (o : Ox) (w : World) (h : wrongB o = false) : Calls Try.prog 41 #[opV o] w fun e w' => e = .returned (.int .u64 (wordOp o)) ∧ Below w.heap.size w w' := by
  obtain ⟨k, a, v⟩ := o
  obtain ⟨h1, h2, h3, h4⟩ := wrongB_f h
  unfold opV wordOp
  simp only [] at *
  clear h
  have hB : Below w.heap.size w (w.alloc (.cells #[.int .i64 k, .int .i64 a, .int .u64 (v : Nat)] (38 : Nat))) := (Below.refl _ _).alloc (Nat.le_refl _) _
  obtain ⟨c0, c1, c2⟩ := C3.new w (.int .i64 k) (.int .i64 a) (.int .u64 (v : Nat)) (38 : Nat)
  have hBd := hB.drew
  have fk : IntKind.u64.wrap k = k := by rw [IntKind.wrap_u64]; omega
  have fa : IntKind.u64.wrap a = a := by rw [IntKind.wrap_u64]; omega
  have hP1 := Lib.hid (fun w => put_k k w h1 h2)
  have hP2 := Lib.hid (fun w => put_a k a w h1 h2 h3 h4)
  go_enter Try.func41, Try.ntmps41
  go_wp2_with fail
  go_region_held3 (fun w' => w'.cell? ⟨w.heap.size, 0, none⟩ = some (.int .i64 k) ∧ w'.cell? ⟨w.heap.size, 1, none⟩ = some (.int .i64 a) ∧ Below w.heap.size w w')
    (((try go_split_ands); refine ⟨?_, ?_, ?_⟩ <;> first | assumption))
    (((try go_split_ands); first | ((with_reducible refine (hP1.out _).mono ?_); rintro e w8 ⟨rfl, rfl⟩) | ((with_reducible refine (hP2.out _).mono ?_); rintro e w8 ⟨rfl, rfl⟩)))
  go_split_ands
  go_wp2_with fail
  go_ret
  exact ⟨rfl, by assumption⟩
end Go.Proofs.Ytibhahbimoiaaaa
