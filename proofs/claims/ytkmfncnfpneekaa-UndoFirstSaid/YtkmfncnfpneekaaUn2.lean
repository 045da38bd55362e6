/-
  Package undo: Encode.
-/
import Derived.Test.YtkmfncnfpneekaaUn1
import Derived.RangeFuncNested
import Derived.RangeFuncBound
import Derived.RangeFuncCalls
import Derived.RangeFuncLeaves
import Derived.RangeFuncFrom
import Derived.RangeFuncWrites
import Derived.RangeFuncBox
set_option linter.unusedVariables false
set_option linter.unusedSimpArgs false
namespace Go.Proofs.Ytkmfncnfpneekaa
open Go.RowKit Go.ChangeShapes Go.WideShapes Go.Deep

theorem KL.one (w : World) (a : Nat) (t : TypeId) : KL .u64 (w.alloc (.cells #[.int .u64 (a : Nat)] t)) (.slice (some ⟨w.heap.size, 0, none⟩) 1 1) [a] := by
  refine ⟨_, _, rfl, fun _ => ⟨_, 0, rfl, by simp, Nat.le_refl _, fun i hi => ?_⟩⟩
  simp only [List.length_singleton] at hi
  obtain rfl : i = 0 := by omega
  exact (row_cell (World.alloc_heap_new w _) 0).1
theorem firstW_lt (g a m : Nat) (ha : a < 1048576) (hm : m < 65536) : firstW g a m < 18446744073709551616 := by
  unfold firstW
  have : g % 65536 < 65536 := Nat.mod_lt _ (by decide)
  generalize g % 65536 = k at *
  omega
set_option maxRecDepth 10000 in
set_option maxHeartbeats 1000000 in
theorem Encode_no (gn : Int) (x : Ex) (w : World) (hx : KL .u64 w x.2.1 x.2.2) (hr : rightB x = false) :
    Calls Try.prog 11 #[.int .u64 gn, eV x] w fun e w' => e = .returned (.tuple #[.slice none 0 0, .int .i64 1]) ∧ Below w.heap.size w w' := by
  obtain ⟨a, v, l⟩ := x
  obtain ⟨A, cap, hv, _⟩ := hx.form rfl
  simp only [] at hv
  subst hv
  have hb0 : Below w.heap.size w (w.alloc (.cells #[.int .i64 a, .slice A l.length cap] (25 : Nat))) := (Below.refl _ _).alloc (Nat.le_refl _) _
  have hC := Right_any (a, .slice A l.length cap, l) _ (hx.keep hb0)
  rw [hr] at hC
  simp only [eV, eE] at hC ⊢
  clear hx hr
  go_enter Try.func11, Try.ntmps11
  go_wp2_with (go_at_call 14; refine hC.mono ?_; rintro e w1 ⟨rfl, hb⟩; clear hC)
  go_ret2
  exact ⟨rfl, hb0.trans (hb.mono (by simp))⟩
set_option maxRecDepth 10000 in
set_option maxHeartbeats 500000 in
theorem Encode_yes (gn : Nat) (x : Ex) (w : World) (hg : gn < 18446744073709551616) (hx : KL .u64 w x.2.1 x.2.2) (hl : WL x.2.2) (hlen : x.2.2.length ≤ 800) (hr : rightB x = true) :
    Calls Try.prog 11 #[.int .u64 (gn : Nat), eV x] w fun e w' => ∃ v, e = .returned (.tuple #[v, .int .i64 0]) ∧ KL .u64 w' v (encW gn x.1.toNat x.2.2) ∧ Below w.heap.size w w' := by
  obtain ⟨a, v, l⟩ := x
  obtain ⟨A, cap, hv, _⟩ := hx.form rfl
  simp only [] at hv
  subst hv
  have hrr := canB_iff.1 hr
  simp only [] at hrr hlen hl
  obtain ⟨a, rfl⟩ := Int.eq_ofNat_of_zero_le hrr.1
  obtain ⟨i0, hi, hz0, hz1, hz2⟩ := info_parts infoU64
  have hb0 : Below w.heap.size w (w.alloc (.cells #[.int .i64 (a : Nat), .slice A l.length cap] (25 : Nat))) := (Below.refl _ _).alloc (Nat.le_refl _) _
  have hC := Right_any ((a : Int), .slice A l.length cap, l) _ (hx.keep hb0)
  rw [hr] at hC
  have kk := World.alloc_heap_new w (.cells #[.int .i64 (a : Nat), .slice A l.length cap] (25 : Nat))
  obtain ⟨n, hn⟩ : ∃ n, l.length = n := ⟨_, rfl⟩
  obtain ⟨f, hf⟩ : ∃ f, firstW gn a n = f := ⟨_, rfl⟩
  have hfl := firstW_lt gn a n (by omega) (by omega)
  have hE := Lib.hid (show encW gn ((a : Nat) : Int).toNat l = (f :: l) ++ [moreN 0 (f :: l)] from by unfold encW; rw [Int.toNat_natCast, hn, hf])
  have hWL : Hid (WL (f :: l)) := fun y hy => by
    rcases List.mem_cons.1 hy with rfl | hy
    · rw [← hf]; exact hfl
    · exact hl y hy
  have hF := Lib.hid (fun w' => first_any gn a n w' hg (by omega) (by omega))
  rw [hf] at hF
  simp only [hn, eV, eE] at hC kk hb0 ⊢
  have hn800 : n ≤ 800 := by omega
  have hnh := Lib.hid hn
  have hxh : Hid (KL .u64 w (.slice A n cap) l) := by
    have q : KL .u64 w (.slice A l.length cap) l := hx
    rw [hn] at q
    exact q
  clear hx hr hrr hlen hl hn hf hfl
  go_enter Try.func11, Try.ntmps11
  go_wp2_with (first
    | (go_at_call 14; refine hC.mono ?_; rintro e w1 ⟨rfl, hb⟩; clear hC
       have hb1 := hb0.trans (hb.mono (by simp))
       have k0 : w1.heap[w.heap.size]? = some (.cells #[.int .i64 (a : Nat), .slice A n cap] (25 : Nat) (0, 0)) := (hb.block _ (by simp)).trans kk
       have hs1 : w.heap.size < w1.heap.size := (Array.getElem?_eq_some_iff.1 k0).1
       obtain ⟨p1, z1⟩ := row_cell k0 1
       clear hb hb0 kk)
    | (at_make; refine wpList_make_own _ rfl _ _ 23 rfl w1.heap.size 22 i0 (.int .u64 0) 1 Try.underlying23 hi hz0 hz1 .i64 .i64 _ (n + 1) rfl rfl (by first | rfl | (go_num) | simp) (by rw [hz2]; omega) (by unfold maxLen; omega) (Nat.le_refl _) ?_; intro w2 hown hgr
       have hO2 : OwnU w2 w1.heap.size (.slice (some ⟨w1.heap.size, 0, none⟩) 0 (n + 1)) [] := hown
       have hb2 : Below w1.heap.size w1 w2 := (Below.refl _ _).grown hgr (Nat.le_refl _) (by simp)
       have k2 : w2.heap[w.heap.size]? = some (.cells #[.int .i64 (a : Nat), .slice A n cap] (25 : Nat) (0, 0)) := (hb2.block _ hs1).trans k0
       obtain ⟨p2, z2⟩ := row_cell k2 0
       obtain ⟨p3, z3⟩ := row_cell k2 1
       have hs2 := hb2.size
       obtain ⟨v3, w3, hr3, hO3, hb3⟩ := appW (hO2.keep ((Below.refl _ _).alloc (Nat.le_refl _) (.cells #[.int .u64 (f : Nat)] (22 : Nat)))) (KL.one w2 f 22) (by rw [World.size_alloc]; omega) (by simp) (by simp)
       replace hO3 : OwnU w3 w1.heap.size v3 [f] := by simpa using hO3
       have hb3' : Below w1.heap.size w1 w3 := (hb2.trans (((Below.refl _ _).alloc (Nat.le_refl _) _).mono hb2.size)).trans hb3
       have k3 : w3.heap[w.heap.size]? = some (.cells #[.int .i64 (a : Nat), .slice A n cap] (25 : Nat) (0, 0)) := (hb3'.block _ hs1).trans k0
       obtain ⟨p4, z4⟩ := row_cell k3 1
       have hb3w := hb1.trans (hb3'.mono hb1.size)
       obtain ⟨v4, w4, hr4, hO4, hb4⟩ := appW hO3 (hxh.out.keep hb3w) hb3'.size (by simp) (by show l.length ≤ 1000000; rw [hnh.out]; omega)
       replace hO4 : OwnU w4 w1.heap.size v4 (f :: l) := hO4
       have hb4w := Lib.hid (hb3w.trans (hb4.mono hb1.size))
       have hSl := seal_any v4 (f :: l) w4 hWL.out (by rw [List.length_cons, hnh.out]; omega) hO4.kl.sl
       obtain ⟨A3, c3, hv3, _⟩ := hO3.form
       rw [List.length_singleton] at hv3
       subst hv3
       obtain ⟨A4, c4, hv4, _⟩ := hO4.form
       rw [List.length_cons, hnh.out] at hv4
       subst hv4
       clear hown hgr hO2 hO3 hO4 hb2 hb3 hb3' hb4 hb3w k0 k2 k3)
    | (go_at_call 24; refine (hF.out _).mono ?_; rintro e w5 ⟨rfl, rfl⟩)
    | (at_builtin; refine wpList_append_run rfl _ _ 23 rfl _ _ _ rfl rfl hr3 ?_; clear hr3)
    | (at_builtin; refine wpList_append_run rfl _ _ 23 rfl _ _ _ rfl rfl hr4 ?_; clear hr4)
    | (go_at_call 25; refine hSl.mono ?_; rintro e w6 ⟨v6, rfl, hS6, hb6⟩; clear hSl
       obtain ⟨sp6, c6, hv6⟩ := SL.form hS6
       rw [show (f :: l ++ [moreN 0 (f :: l)]).length = n + 2 from by simp only [List.length_append, List.length_cons, List.length_nil]; rw [hnh.out]] at hv6
       subst hv6))
  go_ret2
  exact ⟨_, rfl, by rw [hE.out]; exact hS6.kl, hb4w.out.trans (hb6.mono hb4w.out.size)⟩
end Go.Proofs.Ytkmfncnfpneekaa
