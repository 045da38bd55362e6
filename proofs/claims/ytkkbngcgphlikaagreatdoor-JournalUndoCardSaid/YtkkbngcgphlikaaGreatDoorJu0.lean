/-
  Short names.
-/
import Derived.Handy
import Derived.Lib.Hide
namespace Go.Proofs.YtkkbngcgphlikaaGreatDoor
open Go.RowKit
theorem lh {p : Prop} (h : p) : Hid p := Lib.hid h
theorem sA {α : Type _} (l : List α) (i : Nat) (a : α) : l.toArray.setIfInBounds i a = (l.set i a).toArray := List.setIfInBounds_toArray ..
theorem sB {α : Type _} {a b : α} {l : List α} : (a :: l).set 0 b = b :: l := List.set_cons_zero
theorem sC {α : Type _} {a b : α} {l : List α} {n : Nat} : (a :: l).set (n + 1) b = a :: l.set n b := List.set_cons_succ
theorem bZ (w : World) (o : Obj) : Below w.heap.size w (w.alloc o) := (Below.refl _ _).alloc (Nat.le_refl _) _
end Go.Proofs.YtkkbngcgphlikaaGreatDoor
