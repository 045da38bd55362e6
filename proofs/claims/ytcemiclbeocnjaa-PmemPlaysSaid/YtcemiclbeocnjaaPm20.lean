/-
  Layer 3 (pmem): what is done with a device, as it comes in; few.
-/
import Derived.Test.YtcemiclbeocnjaaPm19
import Derived.Test.YtcemiclbeocnjaaTk16
import Derived.Test.YtcemiclbeocnjaaTkO
set_option linter.unusedVariables false
set_option linter.unusedSimpArgs false
namespace Go.Proofs.Ytcemiclbeocnjaa
open Go.RowKit Go.ChangeShapes Go.WideShapes Go.Deep Go.Maps

/-- an operation: its kind, At, Many, V; where its Keep lies, and what that is -/
abbrev Qx := (Int × Int × Int × Int) × Value × List Nat
def qE (o : Qx) : List Value := [.int .u8 o.1.1, .int .i64 o.1.2.1, .int .i64 o.1.2.2.1, .int .u64 o.1.2.2.2, o.2.1]
theorem qE_len (o : Qx) : (qE o).length = 5 := rfl
def qV (o : Qx) : Value := .agg (qE o).toArray
def QOk (W : World) (o : Qx) : Prop := (0 ≤ o.1.1 ∧ o.1.1 ≤ 255) ∧ I64 o.1.2.1 ∧ I64 o.1.2.2.1 ∧ U64 o.1.2.2.2 ∧ BL o.2.2 ∧ KL .u8 W o.2.1 o.2.2
def QL (W : World) (l : List Qx) : Prop := l.length ≤ 9223372036854775807 ∧ ∀ x ∈ l, QOk W x
def QPL (w : World) (v : Value) (l : List Qx) : Prop := EL 5 qE w v l
set_option maxRecDepth 10000 in
theorem qop_read {H : Type} {enc : TypeId × Value → H} {W : World} {fuel : Nat} {cs : List Value} {x : DataW H × List MemPlace} (hl : cs.length = 5) (h : DataW.trod enc Try.prog W 0 (fun _ => true) true fuel 36 cs = some x) :
    ∃ o : Qx, QOk W o ∧ cs = qE o := by
  obtain ⟨xs, n, _, rfl, _, hxl, hf⟩ := DataW.trod_struct Try.underlying36 h
  match xs, hxl, cs, hl with
  | [y0, y1, y2, y3, y4], _, [u0, u1, u2, u3, u4], _ =>
    have g0 : DataW.trod enc Try.prog W 0 (fun _ => true) true n 5 ((([u0, u1, u2, u3, u4] : List Value).drop 0).take (Try.prog.cellsOf 5)) = some y0 := hf 0 _ rfl
    have g1 : DataW.trod enc Try.prog W 0 (fun _ => true) true n 3 ((([u0, u1, u2, u3, u4] : List Value).drop 1).take (Try.prog.cellsOf 3)) = some y1 := hf 1 _ rfl
    have g2 : DataW.trod enc Try.prog W 0 (fun _ => true) true n 3 ((([u0, u1, u2, u3, u4] : List Value).drop 2).take (Try.prog.cellsOf 3)) = some y2 := hf 2 _ rfl
    have g3 : DataW.trod enc Try.prog W 0 (fun _ => true) true n 32 ((([u0, u1, u2, u3, u4] : List Value).drop 3).take (Try.prog.cellsOf 32)) = some y3 := hf 3 _ rfl
    have g4 : DataW.trod enc Try.prog W 0 (fun _ => true) true n 34 ((([u0, u1, u2, u3, u4] : List Value).drop 4).take (Try.prog.cellsOf 34)) = some y4 := hf 4 _ rfl
    rw [c8] at g0
    rw [ci] at g1 g2
    rw [cu] at g3
    rw [show Try.prog.cellsOf 34 = 1 from by kernel_rfl] at g4
    obtain ⟨a0, e0, rfl, w0⟩ := DataW.trod_int Try.underlying5 g0
    obtain ⟨a1, e1, rfl, w1⟩ := DataW.trod_int Try.underlying3 g1
    obtain ⟨a2, e2, rfl, w2⟩ := DataW.trod_int Try.underlying3 g2
    obtain ⟨a3, e3, rfl, w3⟩ := DataW.trod_int Try.underlying32 g3
    simp at e0 e1 e2 e3
    subst e0 e1 e2 e3
    have hs : ∃ ad len cap, u4 = .slice ad len cap := by
      rcases open_slice Try.underlying34 g4 with ⟨hcs, _⟩ | ⟨a, len', cap', m, n', D, Pl, hcs, _⟩
      · simp at hcs; exact ⟨none, 0, 0, hcs⟩
      · simp at hcs; exact ⟨some a, len', cap', hcs⟩
    obtain ⟨ad, len, cap, rfl⟩ := hs
    obtain ⟨d4, p4⟩ := y4
    have hT : DataW.Trod enc Try.prog W 0 (fun _ => true) true 34 (.slice ad len cap) d4 p4 := ⟨n, by simpa [Value.cells] using g4⟩
    obtain ⟨l, hl, hk⟩ := bytes_open Try.underlying34 Try.underlying5 (by kernel_rfl) hT
    have hb := bounds_u8 w0
    exact ⟨((a0, a1, a2, a3), .slice ad len cap, l), ⟨⟨hb.1, hb.2⟩, wf_I64 w1, wf_I64 w2, bounds_u64 w3, hl, hk⟩, rfl⟩
theorem qops_open {H : Type} {enc : TypeId × Value → H} {W : World} {ad : Option Addr} {len cap : Nat} {d : DataW H} {p : List MemPlace}
    (h : DataW.Trod enc Try.prog W 0 (fun _ => true) true 23 (.slice ad len cap) d p) : ∃ l : List Qx, QL W l ∧ QPL W (.slice ad len cap) l :=
  els_open (Ok := QOk W) Try.underlying23 (by kernel_rfl) (by decide) (fun fuel cs x hl hx => qop_read hl hx) h

/-- an operation of a size that is looked at -/
def QFew (o : Qx) : Prop := o.2.2.length ≤ 40 ∧ -1099511627776 ≤ o.1.2.1 ∧ o.1.2.1 ≤ 1099511627776 ∧ -1099511627776 ≤ o.1.2.2.1 ∧ o.1.2.2.1 ≤ 1099511627776
def QFewL (l : List Qx) : Prop := (∀ o ∈ l, QFew o) ∧ l.length ≤ 60
def QFewE (e : Ending) (l : List Qx) : Prop := ∃ t : Bool, e = .returned (.bool t) ∧ (t = true → QFewL l)
theorem qfewE_f (l : List Qx) : QFewE (.returned (.bool false)) l := ⟨false, rfl, fun q => by cases q⟩
theorem qfewL_of {l : List Qx} {n : Nat} (hn : l.length = n) (h : ∀ j, j < n → QFew (l.getD j default)) (h2 : n ≤ 60) : QFewL l := ⟨fun o ho => by
  obtain ⟨j, hj, rfl⟩ := List.mem_iff_getElem.1 ho
  have := h j (by omega)
  rwa [List.getD_eq_getElem?_getD, List.getElem?_eq_getElem hj] at this, by omega⟩
theorem QL.at {W : World} {l : List Qx} (h : QL W l) {k : Nat} (hk : k < l.length) : QOk W (l.getD k default) := by
  rw [List.getD_eq_getElem?_getD, List.getElem?_eq_getElem hk]
  exact h.2 _ (List.getElem_mem hk)

attribute [local irreducible] wpList
set_option maxRecDepth 10000 in
set_option maxHeartbeats 4000000 in
theorem qfew_any (v : Value) (l : List Qx) (w : World) (hl : QL w l) (hv : QPL w v l) (hz : l.length * 56 ≤ 140737488351232) :
    Calls Try.prog 12 #[v] w fun e w' => QFewE e l ∧ Below w.heap.size w w' := by
  obtain ⟨n, hn⟩ : ∃ n, l.length = n := ⟨_, rfl⟩
  obtain ⟨A, cap, rfl, hC⟩ := EL.form hv hn
  have hE := Lib.hid (fun (h : ∀ j, j < n → QFew (l.getD j default)) (h2 : n ≤ 60) => qfewL_of hn h h2)
  have hOB := Lib.hid (fun k (hk : k < n) => hl.at (k := k) (by omega))
  have hn9 : n ≤ 2600000000000 := by omega
  replace hC := Lib.hid hC
  have hff := Lib.hid (qfewE_f l)
  clear hl hv hn hz
  go_enter Try.func12, Try.ntmps12
  go_wp2_with fail
  go_loopw [3] (fun i wr => ∃ k : Nat, k ≤ n ∧ i = .int .i64 k ∧ (∀ j, j < k → QFew (l.getD j default)) ∧ Below w.heap.size w wr) (fun i _ => n + 1 - (intOf i).toNat)
  case atStart => exact ⟨0, Nat.zero_le _, rfl, fun j hj => absurd hj (Nat.not_lt_zero _), Below.refl _ _⟩
  case round =>
    obtain ⟨k, hk, rfl, hF, hB⟩ := hrel
    by_cases hlt : k < n
    · obtain ⟨g, off, rfl, hcap, _, hg, hcl⟩ := hC.out wr k hB hlt
      have hlt' : (k : Int) < (n : Int) := by omega
      have hob := hOB.out k hlt
      have hnew : Hid (QFew (l.getD k default) → ∀ j, j < k + 1 → QFew (l.getD j default)) := fun q j hj => by
        by_cases e : j = k
        · subst e; exact q
        · exact hF j (by omega)
      replace hF := Lib.hid hF
      generalize l.getD k default = o at *
      obtain ⟨⟨kd, at_, mn, vv⟩, kv, kp⟩ := o
      obtain ⟨_, _, _, _, hbl, hkl⟩ := hob
      obtain ⟨m, hm⟩ : ∃ m, kp.length = m := ⟨_, rfl⟩
      obtain ⟨Ak, ck, hkv, hkc⟩ := hkl.form hm
      simp only [] at hkv
      subst hkv
      have d0 : wr.cell? ⟨g, off + k * 5, none⟩ = some (.int .u8 kd) := hcl 0 (by omega)
      have d1 : wr.cell? ⟨g, off + k * 5 + 1, none⟩ = some (.int .i64 at_) := hcl 1 (by omega)
      have d2 : wr.cell? ⟨g, off + k * 5 + 2, none⟩ = some (.int .i64 mn) := hcl 2 (by omega)
      have d4 : wr.cell? ⟨g, off + k * 5 + 4, none⟩ = some (.slice Ak m ck) := hcl 4 (by omega)
      have hmm : Hid (kp.length = m) := hm
      clear hcl hkc hm hbl hkl
      by_cases q0 : m ≤ 40
      · have p0 : (m : Int) ≤ 40 := by omega
        by_cases q1 : at_ < -1099511627776
        · go_wp2_with fail
          go_ret
          exact ⟨hff.out, hB⟩
        by_cases q2 : 1099511627776 < at_
        · have p1 : -1099511627776 ≤ at_ := by omega
          go_wp2_with fail
          go_ret
          exact ⟨hff.out, hB⟩
        by_cases q3 : mn < -1099511627776
        · have p1 : -1099511627776 ≤ at_ := by omega
          have p2 : at_ ≤ 1099511627776 := by omega
          go_wp2_with fail
          go_ret
          exact ⟨hff.out, hB⟩
        by_cases q4 : 1099511627776 < mn
        · have p1 : -1099511627776 ≤ at_ := by omega
          have p2 : at_ ≤ 1099511627776 := by omega
          have p3 : -1099511627776 ≤ mn := by omega
          go_wp2_with fail
          go_ret
          exact ⟨hff.out, hB⟩
        · have p1 : -1099511627776 ≤ at_ := by omega
          have p2 : at_ ≤ 1099511627776 := by omega
          have p3 : -1099511627776 ≤ mn := by omega
          have p4 : mn ≤ 1099511627776 := by omega
          have hfo := Lib.hid (hnew.out ⟨by show kp.length ≤ 40; rw [hmm.out]; exact q0, p1, p2, p3, p4⟩)
          go_wp2_with fail
          go_roundw
          case rel => exact ⟨k + 1, by omega, by go_num, hfo.out, hB⟩
          case measure => simp [intOf]; omega
      · have p0 : (40 : Int) < (m : Int) := by omega
        go_wp2_with fail
        go_ret
        exact ⟨hff.out, hB⟩
    · obtain rfl : k = n := by omega
      by_cases h6 : k ≤ 60
      · have h7 : (k : Int) ≤ 60 := by omega
        go_wp2_with fail
        go_ret
        exact ⟨⟨true, by simp [h7], fun _ => hE.out hF h6⟩, hB⟩
      · have h7 : (60 : Int) < (k : Int) := by omega
        go_wp2_with fail
        go_ret
        exact ⟨⟨false, by simp; omega, fun q => by cases q⟩, hB⟩
end Go.Proofs.Ytcemiclbeocnjaa
