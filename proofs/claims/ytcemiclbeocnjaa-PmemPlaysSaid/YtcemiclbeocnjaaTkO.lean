/-
  Arguments that came in: lists of bools, of what a transaction does; a fresh object by value.
-/
import Derived.Test.YtcemiclbeocnjaaTk7
import Derived.Lib.SmallJoins
set_option linter.unusedVariables false
set_option linter.unusedSimpArgs false
namespace Go.Proofs.Ytcemiclbeocnjaa
open Go.RowKit Go.ChangeShapes Go.WideShapes Go.Deep

def boE (b : Bool) : List Value := [.bool b]
theorem boE_len (b : Bool) : (boE b).length = 1 := rfl
def BoL (w : World) (v : Value) (l : List Bool) : Prop := EL 1 boE w v l
def BBL (l : List Bool) : Prop := l.length ≤ 9223372036854775807 ∧ ∀ b ∈ l, True
theorem bools_open {H : Type} {enc : TypeId × Value → H} {W : World} {ad : Option Addr} {len cap : Nat} {d : DataW H} {p : List MemPlace}
    (h : DataW.Trod enc Try.prog W 0 (fun _ => true) true 85 (.slice ad len cap) d p) : ∃ l : List Bool, BBL l ∧ BoL W (.slice ad len cap) l := by
  refine els_open (Ok := fun _ => True) Try.underlying85 (by kernel_rfl) (by decide) (fun fuel cs x hl hx => ?_) h
  obtain ⟨b, rfl, _⟩ := DataW.trod_bool Try.underlying4 hx
  exact ⟨b, trivial, rfl⟩

/-- a number of 64 bits without a sign -/
def U64 (x : Int) : Prop := 0 ≤ x ∧ x ≤ 18446744073709551615
def FB (f : Fx) : Prop := (I64 f.1.1 ∧ I64 f.1.2.1 ∧ I64 f.1.2.2.1 ∧ I64 f.1.2.2.2.1) ∧ I64 f.2.1 ∧ I64 f.2.2.1 ∧ I64 f.2.2.2.1 ∧ U64 f.2.2.2.2
theorem ci : Try.prog.cellsOf 3 = 1 := by kernel_rfl
theorem cu : Try.prog.cellsOf 32 = 1 := by kernel_rfl
theorem cb : Try.prog.cellsOf 4 = 1 := by kernel_rfl
theorem c8 : Try.prog.cellsOf 5 = 1 := by kernel_rfl
theorem cP : Try.prog.cellsOf 65 = 5 := by kernel_rfl
theorem cH : Try.prog.cellsOf 67 = 3 := by kernel_rfl
theorem cF : Try.prog.cellsOf 69 = 9 := by kernel_rfl
theorem cS : Try.prog.cellsOf 63 = 2 := by kernel_rfl
set_option maxRecDepth 10000 in
theorem place_read {H : Type} {enc : TypeId × Value → H} {W : World} {b0 : Nat} {sp : Nat → Bool} {hd : Bool} {fuel : Nat} {u0 u1 u2 u3 u4 : Value} {x : DataW H × List MemPlace} (h : DataW.trod enc Try.prog W b0 sp hd fuel 65 [u0, u1, u2, u3, u4] = some x) :
    ∃ (a0 a1 a2 a3 : Int) (a4 : Bool), (I64 a0 ∧ I64 a1 ∧ I64 a2 ∧ I64 a3) ∧ [u0, u1, u2, u3, u4] = [.int .i64 a0, .int .i64 a1, .int .i64 a2, .int .i64 a3, .bool a4] ∧ x.2 = [] := by
  obtain ⟨xs, n, _, rfl, _, hxl, hf⟩ := DataW.trod_struct Try.underlying65 h
  match xs, hxl with
  | [y0, y1, y2, y3, y4], _ =>
    have g0 : DataW.trod enc Try.prog W b0 sp hd n 3 ((([u0, u1, u2, u3, u4] : List Value).drop 0).take (Try.prog.cellsOf 3)) = some y0 := hf 0 _ rfl
    have g1 : DataW.trod enc Try.prog W b0 sp hd n 3 ((([u0, u1, u2, u3, u4] : List Value).drop 1).take (Try.prog.cellsOf 3)) = some y1 := hf 1 _ rfl
    have g2 : DataW.trod enc Try.prog W b0 sp hd n 3 ((([u0, u1, u2, u3, u4] : List Value).drop 2).take (Try.prog.cellsOf 3)) = some y2 := hf 2 _ rfl
    have g3 : DataW.trod enc Try.prog W b0 sp hd n 3 ((([u0, u1, u2, u3, u4] : List Value).drop 3).take (Try.prog.cellsOf 3)) = some y3 := hf 3 _ rfl
    have g4 : DataW.trod enc Try.prog W b0 sp hd n 4 ((([u0, u1, u2, u3, u4] : List Value).drop 4).take (Try.prog.cellsOf 4)) = some y4 := hf 4 _ rfl
    rw [ci] at g0 g1 g2 g3
    rw [cb] at g4
    obtain ⟨a0, e0, rfl, w0⟩ := DataW.trod_int Try.underlying3 g0
    obtain ⟨a1, e1, rfl, w1⟩ := DataW.trod_int Try.underlying3 g1
    obtain ⟨a2, e2, rfl, w2⟩ := DataW.trod_int Try.underlying3 g2
    obtain ⟨a3, e3, rfl, w3⟩ := DataW.trod_int Try.underlying3 g3
    obtain ⟨a4, e4, rfl⟩ := DataW.trod_bool Try.underlying4 g4
    simp at e0 e1 e2 e3 e4
    subst e0 e1 e2 e3 e4
    exact ⟨a0, a1, a2, a3, a4, ⟨wf_I64 w0, wf_I64 w1, wf_I64 w2, wf_I64 w3⟩, rfl, rfl⟩
set_option maxRecDepth 10000 in
theorem header_read {H : Type} {enc : TypeId × Value → H} {W : World} {b0 : Nat} {sp : Nat → Bool} {hd : Bool} {fuel : Nat} {u0 u1 u2 : Value} {x : DataW H × List MemPlace} (h : DataW.trod enc Try.prog W b0 sp hd fuel 67 [u0, u1, u2] = some x) :
    ∃ (a0 a1 a2 : Int), (I64 a0 ∧ I64 a1 ∧ U64 a2) ∧ [u0, u1, u2] = [.int .i64 a0, .int .i64 a1, .int .u64 a2] ∧ x.2 = [] := by
  obtain ⟨xs, n, _, rfl, _, hxl, hf⟩ := DataW.trod_struct Try.underlying67 h
  match xs, hxl with
  | [y0, y1, y2], _ =>
    have g0 : DataW.trod enc Try.prog W b0 sp hd n 3 ((([u0, u1, u2] : List Value).drop 0).take (Try.prog.cellsOf 3)) = some y0 := hf 0 _ rfl
    have g1 : DataW.trod enc Try.prog W b0 sp hd n 3 ((([u0, u1, u2] : List Value).drop 1).take (Try.prog.cellsOf 3)) = some y1 := hf 1 _ rfl
    have g2 : DataW.trod enc Try.prog W b0 sp hd n 32 ((([u0, u1, u2] : List Value).drop 2).take (Try.prog.cellsOf 32)) = some y2 := hf 2 _ rfl
    rw [ci] at g0 g1
    rw [cu] at g2
    obtain ⟨a0, e0, rfl, w0⟩ := DataW.trod_int Try.underlying3 g0
    obtain ⟨a1, e1, rfl, w1⟩ := DataW.trod_int Try.underlying3 g1
    obtain ⟨a2, e2, rfl, w2⟩ := DataW.trod_int Try.underlying32 g2
    simp at e0 e1 e2
    subst e0 e1 e2
    exact ⟨a0, a1, a2, ⟨wf_I64 w0, wf_I64 w1, bounds_u64 w2⟩, rfl, rfl⟩
set_option maxRecDepth 10000 in
theorem fresh_read {H : Type} {enc : TypeId × Value → H} {W : World} {b0 : Nat} {sp : Nat → Bool} {hd : Bool} {fuel : Nat} {cs : List Value} {x : DataW H × List MemPlace} (hl : cs.length = 9) (h : DataW.trod enc Try.prog W b0 sp hd fuel 69 cs = some x) :
    ∃ f : Fx, FB f ∧ cs = fE f ∧ x.2 = [] := by
  obtain ⟨xs, n, _, rfl, _, hxl, hf⟩ := DataW.trod_struct Try.underlying69 h
  match xs, hxl, cs, hl with
  | [y0, y1, y2], _, [u0, u1, u2, u3, u4, u5, u6, u7, u8], _ =>
    have g0 : DataW.trod enc Try.prog W b0 sp hd n 65 ((([u0, u1, u2, u3, u4, u5, u6, u7, u8] : List Value).drop 0).take (Try.prog.cellsOf 65)) = some y0 := hf 0 _ rfl
    have g1 : DataW.trod enc Try.prog W b0 sp hd n 3 ((([u0, u1, u2, u3, u4, u5, u6, u7, u8] : List Value).drop 5).take (Try.prog.cellsOf 3)) = some y1 := hf 1 _ rfl
    have g2 : DataW.trod enc Try.prog W b0 sp hd n 67 ((([u0, u1, u2, u3, u4, u5, u6, u7, u8] : List Value).drop 6).take (Try.prog.cellsOf 67)) = some y2 := hf 2 _ rfl
    rw [cP] at g0
    rw [ci] at g1
    rw [cH] at g2
    obtain ⟨a0, a1, a2, a3, a4, ⟨b0, b1, b2, b3⟩, e0, z0⟩ := place_read g0
    obtain ⟨a5, e5, rfl, w5⟩ := DataW.trod_int Try.underlying3 g1
    obtain ⟨a6, a7, a8, ⟨b6, b7, b8⟩, e6, z6⟩ := header_read g2
    simp at e0 e5 e6
    obtain ⟨rfl, rfl, rfl, rfl, rfl⟩ := e0
    obtain ⟨rfl, rfl, rfl⟩ := e6
    subst e5
    exact ⟨((a0, a1, a2, a3, a4), a5, a6, a7, a8), ⟨⟨b0, b1, b2, b3⟩, wf_I64 w5, b6, b7, b8⟩, rfl, by simp [z0, z6]⟩
set_option maxRecDepth 10000 in
/-- a fresh object by value -/
theorem fresh_open {H : Type} {enc : TypeId × Value → H} {W : World} {r : Reach} {b0 b1 : Nat} {sp : Nat → Bool} {hd : Bool} {v : Value} {d : DataW H} {p : List MemPlace} (hv : Value.okWide Try.prog W r b1 69 v) (h : DataW.Trod enc Try.prog W b0 sp hd 69 v d p) :
    ∃ f : Fx, FB f ∧ v = fV f ∧ p = [] := by
  obtain ⟨cs, rfl, hsz⟩ := okWide_struct Try.underlying69 hv
  obtain ⟨fuel, hf⟩ := h
  rw [cF] at hsz
  obtain ⟨f, hb, he, hp⟩ := fresh_read (by simpa [Value.cells] using hsz) hf
  refine ⟨f, hb, ?_, hp⟩
  unfold fV
  rw [← he]
  simp [Value.cells]

/-- what is done: its kind, a span, a fresh object -/
abbrev Ox := Nat × Sp × Fx
def oE (o : Ox) : List Value := .int .u8 (o.1 : Nat) :: .int .i64 o.2.1.1 :: .int .i64 o.2.1.2 :: fE o.2.2
theorem oE_len (o : Ox) : (oE o).length = 12 := rfl
def OB (o : Ox) : Prop := o.1 < 256 ∧ I64 o.2.1.1 ∧ I64 o.2.1.2 ∧ FB o.2.2
def OPL (w : World) (v : Value) (l : List Ox) : Prop := EL 12 oE w v l
theorem OPL.keep {w w1 : World} {v : Value} {l : List Ox} (h : OPL w v l) (hb : Below w.heap.size w w1) : OPL w1 v l := EL.keep h hb
def OL (l : List Ox) : Prop := l.length ≤ 9223372036854775807 ∧ ∀ o ∈ l, OB o
set_option maxRecDepth 10000 in
theorem ops_open {H : Type} {enc : TypeId × Value → H} {W : World} {ad : Option Addr} {len cap : Nat} {d : DataW H} {p : List MemPlace}
    (h : DataW.Trod enc Try.prog W 0 (fun _ => true) true 52 (.slice ad len cap) d p) : ∃ l : List Ox, OL l ∧ OPL W (.slice ad len cap) l := by
  refine els_open (Ok := OB) Try.underlying52 (by kernel_rfl) (by decide) (fun fuel cs x hl hx => ?_) h
  obtain ⟨xs, n, _, _, _, hxl, hf⟩ := DataW.trod_struct Try.underlying71 hx
  match xs, hxl, cs, hl with
  | [y0, y1, y2], _, [v0, v1, v2, u0, u1, u2, u3, u4, u5, u6, u7, u8], _ =>
    have g0 : DataW.trod enc Try.prog W 0 (fun _ => true) true n 5 ((([v0, v1, v2, u0, u1, u2, u3, u4, u5, u6, u7, u8] : List Value).drop 0).take (Try.prog.cellsOf 5)) = some y0 := hf 0 _ rfl
    have g1 : DataW.trod enc Try.prog W 0 (fun _ => true) true n 63 ((([v0, v1, v2, u0, u1, u2, u3, u4, u5, u6, u7, u8] : List Value).drop 1).take (Try.prog.cellsOf 63)) = some y1 := hf 1 _ rfl
    have g2 : DataW.trod enc Try.prog W 0 (fun _ => true) true n 69 ((([v0, v1, v2, u0, u1, u2, u3, u4, u5, u6, u7, u8] : List Value).drop 3).take (Try.prog.cellsOf 69)) = some y2 := hf 2 _ rfl
    rw [c8] at g0
    rw [cS] at g1
    rw [cF] at g2
    obtain ⟨a0, e0, _, w0⟩ := DataW.trod_int Try.underlying5 g0
    obtain ⟨f, hfb, ef, _⟩ := fresh_read (by simp) g2
    obtain ⟨zs, n2, _, _, _, hzl, hz⟩ := DataW.trod_struct Try.underlying63 g1
    match zs, hzl with
    | [z0, z1], _ =>
      have k0 : DataW.trod enc Try.prog W 0 (fun _ => true) true n2 3 ((([v1, v2] : List Value).drop 0).take (Try.prog.cellsOf 3)) = some z0 := hz 0 _ rfl
      have k1 : DataW.trod enc Try.prog W 0 (fun _ => true) true n2 3 ((([v1, v2] : List Value).drop 1).take (Try.prog.cellsOf 3)) = some z1 := hz 1 _ rfl
      rw [ci] at k0 k1
      obtain ⟨a1, e1, _, w1⟩ := DataW.trod_int Try.underlying3 k0
      obtain ⟨a2, e2, _, w2⟩ := DataW.trod_int Try.underlying3 k1
      simp at e0 e1 e2
      subst e0 e1 e2
      have b0 := bounds_u8 w0
      obtain ⟨n0, rfl⟩ := Int.eq_ofNat_of_zero_le (show 0 ≤ a0 by omega)
      refine ⟨(n0, (a1, a2), f), ⟨by simp only []; omega, wf_I64 w1, wf_I64 w2, hfb⟩, ?_⟩
      simp only [List.drop_succ_cons, List.drop_zero, List.take_succ_cons, List.take_zero] at ef
      unfold oE
      rw [← ef]
end Go.Proofs.Ytcemiclbeocnjaa
