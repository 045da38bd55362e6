/-
  Layer 18 (lock): the code's Release.
-/
import Derived.Test.YtibhahbimoiaaaaLk8
set_option linter.unusedVariables false
set_option linter.unusedSimpArgs false
namespace Go.Proofs.Ytibhahbimoiaaaa
open Go.RowKit Go.ChangeShapes Go.WideShapes Go.Deep Go.Maps

def letG (g : Gx) (lane : Int) : Gx := fun x => if g x = some lane then none else g x
def cutG (g : Gx) (L : List Int) : Gx := fun x => if x ∈ L then none else g x
theorem cutG_nil (g : Gx) : cutG g [] = g := by funext x; simp [cutG]
theorem cutG_snoc (g : Gx) (L : List Int) (x : Int) : delG (cutG g L) x = cutG g (L ++ [x]) := by
  funext y
  unfold delG cutG
  by_cases e : y = x
  · subst e; simp
  · simp [e]
theorem cutG_all {g : Gx} {lane : Int} {L : List Int} (h : HeldIs g lane L) : cutG g L = letG g lane := by
  funext x
  unfold cutG letG
  by_cases e : x ∈ L
  · rw [if_pos e, if_pos ((h.mem x).1 e)]
  · rw [if_neg e, if_neg (fun q => e ((h.mem x).2 q))]
theorem take_snoc (L : List Int) (k : Nat) (h : k < L.length) : L.take (k + 1) = L.take k ++ [L.getD k default] := by
  rw [List.take_succ_eq_append_getElem h, List.getD_eq_getElem?_getD, List.getElem?_eq_getElem h]
  rfl

set_option maxHeartbeats 2000000 in
theorem Release_any (B M n : Nat) (g : Gx) (lane : Int) (w : World) (ht : Tab w B M n g) (hn : n ≤ 10000000000000) :
    Calls Try.prog 33 #[.pointer (some ⟨B, 0, none⟩), .int .i64 lane] w fun e w' => ∃ L, e = .returned (.int .i64 ((L.length : Nat) : Int)) ∧ HeldIs g lane L ∧ L.length ≤ n ∧ Tab w' B M n (letG g lane) ∧ w.grownBy w' (some M) := by
  have hH := Held_any B M n g lane w ht hn
  have c0 := ht.cell
  have hM := ht.ltM
  have hBl := ht.ltB
  replace ht := Lib.hid ht
  go_enter Try.func33, Try.ntmps33
  go_wp2_with (first
    | (go_at_call 38; refine hH.mono ?_; rintro e w1 ⟨v, L, rfl, ho, hL, hLn, hb⟩
       obtain ⟨m, hm⟩ : ∃ m, L.length = m := ⟨_, rfl⟩
       obtain ⟨A, cap, rfl, hC⟩ := (ho.el iE_len).form hm
       clear hC))
  have ht1 := Lib.hid (ht.out.keep hb)
  have hsz1 := hb.size
  have hgr := Lib.hid (show w.grownBy w1 (some M) from ⟨hb.os, hb.tape, hb.output, hb.size, fun k hk _ => hb.block k hk⟩)
  have hall := Lib.hid (cutG_all hL)
  have hin := Lib.hid (fun k (h : k < m) => show I64 (L.getD k default) from (ht.out.got ((hL.mem _).1 (by rw [List.getD_eq_getElem?_getD, List.getElem?_eq_getElem (by omega)]; exact List.getElem_mem _))).1)
  have hsn := Lib.hid (fun k (h : k < m) => take_snoc L k (by omega))
  have hLm := Lib.hid hm
  have hm1 : m ≤ 10000000000000 := by omega
  have hLn' := Lib.hid hLn
  have hL' := Lib.hid hL
  replace ho := Lib.hid ho
  clear hH hb hm hL hLn
  go_loopw [13] (fun i wr => ∃ k : Nat, k ≤ m ∧ i = .int .i64 k ∧ Tab wr B M n (cutG g (L.take k)) ∧ Hid (OwnE 3 1 iE wr w.heap.size (.slice A m cap) L) ∧ Hid (w.grownBy wr (some M))) (fun i _ => m + 1 - (intOf i).toNat)
  case atStart => exact ⟨0, Nat.zero_le _, rfl, by rw [List.take_zero, cutG_nil]; exact ht1.out, ho.out, hgr.out⟩
  case round =>
    obtain ⟨k, hk, rfl, htr, hor, hgw⟩ := hrel
    by_cases hlt : k < m
    · obtain ⟨A2, cap2, hv, hC⟩ := (hor.out.el iE_len).form hLm.out
      obtain ⟨g2, off, hA, hcap, _, hg, hcl⟩ := hC wr k (Below.refl _ _) hlt
      cases hv
      subst hA
      have d0 := hcl 0 (by omega)
      rw [Nat.add_zero, Nat.mul_one] at d0
      clear hcl hC
      have cr := htr.cell
      have hlt' : (k : Int) < (m : Int) := by omega
      have hi := hin.out k hlt
      have hs := Lib.hid (hsn.out k hlt)
      generalize L.getD k default = x at *
      replace d0 : wr.cell? ⟨g2, off + k, none⟩ = some (.int .i64 x) := d0
      obtain ⟨w2, hrun, ht2, hg2⟩ := htr.drop hi 0
      have ho2 := Lib.hid (hor.out.kept hg2 (by
        cases hv : (Value.slice (some ⟨g2, off, none⟩) m cap).ownBlock with
        | none => exact .inl rfl
        | some q => exact .inr (by have := (hor.out.lt q hv).1; simp; omega)))
      have hgw2 := Lib.hid (hgw.out.trans hg2)
      have ht3 : Tab w2 B M n (cutG g (L.take (k + 1))) := by rw [hs.out, ← cutG_snoc]; exact ht2
      clear htr ht2 hg2 hor hi
      go_wp2_with fail
      go_roundw
      case rel => exact ⟨k + 1, by omega, by go_num, ht3, ho2.out, hgw2.out⟩
      case measure => simp [intOf]; omega
    · obtain rfl : k = m := by omega
      have he := Lib.hid (show L.take k = L from List.take_of_length_le (by have := hLm.out; omega))
      replace htr := Lib.hid htr
      go_wp2_with fail
      go_ret
      exact ⟨L, by rw [hLm.out]; rfl, hL'.out, hLn'.out, by rw [← hall.out, ← he.out, he.out]; have := htr.out; rw [he.out] at this; exact this, hgw.out⟩
end Go.Proofs.Ytibhahbimoiaaaa
