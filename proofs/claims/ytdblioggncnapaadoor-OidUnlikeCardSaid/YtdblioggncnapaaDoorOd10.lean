/-
  Package oid: OidUnlike, case by case.
-/
import Derived.Test.YtdblioggncnapaaDoorOd10a
import Derived.Test.YtdblioggncnapaaDoorOd10b
import Derived.Test.YtdblioggncnapaaDoorOd10c
import Derived.Test.YtdblioggncnapaaDoorOd10d
set_option linter.unusedVariables false
set_option linter.unusedSimpArgs false
set_option maxRecDepth 100000
namespace Go.Proofs.YtdblioggncnapaaDoor
open Go.RowKit Go.Lib
theorem oidUnlike (a0 a1 a2 b0 b1 b2 h0 h1 h2 k0 k1 k2 : Int) (w : World) (ht : Tb w) (ua0 : a0 < 9223372036854775808) (ua1 : a1 < 9223372036854775808) (ua2 : 0 ≤ a2) (va2 : a2 < 18446744073709551616) (ub0 : b0 < 9223372036854775808) (ub1 : b1 < 9223372036854775808) (ub2 : 0 ≤ b2) (vb2 : b2 < 18446744073709551616) (u2 : 0 ≤ h2) (u3 : 0 ≤ k2) :
    Calls Tryd.prog 7 #[nV a0 a1 a2, nV b0 b1 b2, nV h0 h1 h2, nV k0 k1 k2] w fun e w' => e = .returned (.bool true) ∧ Below w.heap.size w w' := by
  by_cases l1 : 0 ≤ a0
  · by_cases l2 : 0 ≤ a1
    · by_cases l3 : 0 ≤ b0
      · by_cases l4 : 0 ≤ b1
        · by_cases d0 : a0 = b0
          · by_cases d1 : a1 = b1
            · by_cases d2 : a2 = b2
              · exact oidUn_c1 a0 a1 a2 b0 b1 b2 h0 h1 h2 k0 k1 k2 w ht ua0 ua1 ua2 va2 ub0 ub1 ub2 vb2 u2 u3 l1 l2 l3 l4 d0 d1 d2
              · exact oidUn_c2 a0 a1 a2 b0 b1 b2 h0 h1 h2 k0 k1 k2 w ht ua0 ua1 ua2 va2 ub0 ub1 ub2 vb2 u2 u3 l1 l2 l3 l4 d0 d1 d2
            · exact oidUn_c3 a0 a1 a2 b0 b1 b2 h0 h1 h2 k0 k1 k2 w ht ua0 ua1 ua2 va2 ub0 ub1 ub2 vb2 u2 u3 l1 l2 l3 l4 d0 d1
          · exact oidUn_c4 a0 a1 a2 b0 b1 b2 h0 h1 h2 k0 k1 k2 w ht ua0 ua1 ua2 va2 ub0 ub1 ub2 vb2 u2 u3 l1 l2 l3 l4 d0
        · exact oidUn_d1 a0 a1 a2 b0 b1 b2 h0 h1 h2 k0 k1 k2 w ht ua0 ua1 ua2 va2 ub0 ub1 ub2 vb2 u2 u3 l1 l2 l3 l4 (by omega)
      · exact oidUn_d2 a0 a1 a2 b0 b1 b2 h0 h1 h2 k0 k1 k2 w ht ua0 ua1 ua2 va2 ub0 ub1 ub2 vb2 u2 u3 l1 l2 l3 (by omega)
    · exact oidUn_d3 a0 a1 a2 b0 b1 b2 h0 h1 h2 k0 k1 k2 w ht ua0 ua1 ua2 va2 ub0 ub1 ub2 vb2 u2 u3 l1 l2 (by omega)
  · exact oidUn_d4 a0 a1 a2 b0 b1 b2 h0 h1 h2 k0 k1 k2 w ht ua0 ua1 ua2 va2 ub0 ub1 ub2 vb2 u2 u3 l1 (by omega)
end Go.Proofs.YtdblioggncnapaaDoor
