import Derived.Test.YtplodoindppleaaGreatHR1Zm
import Derived.Test.YtplodoindppleaaGreatHR2Zm
import Derived.Test.YtplodoindppleaaGreatHR3Zm
import Derived.Test.YtplodoindppleaaGreatHR4Zm
import Derived.Test.YtplodoindppleaaGreatHR5Zm
import Derived.Test.YtplodoindppleaaGreatHR6Zm
namespace Go.Proofs.YtplodoindppleaaGreat
set_option linter.unusedVariables false
open Go.RowKit
open Go.Lib (hid)
theorem rRightM {w : World} {m : Ms} (hm : m.at w) (hms : m.short 1024) : Calls Tryz.prog 19 #[.agg m.m.arr] w fun e w' => e = .returned (.bool (rightM m)) ∧ Below w.heap.size w w' := by
 by_cases hg : m.m.c.ok = true ∧ inB m.m.fr 9 = true ∧ inB m.m.tt 9 = true ∧ withinB m.m.bal 1048576 = true
 · by_cases h0 : m.m.so = 0
   · exact rR5_0 hm hms hg h0
   by_cases h1 : m.m.so = 1
   · exact rR5_1 hm hms hg h1
   by_cases h2 : m.m.so = 2
   · exact rR5_2 hm hms hg h2
   by_cases h5 : m.m.so = 5
   · exact rR5_5 hm hms hg h5
   by_cases h7 : m.m.so = 7
   · exact rR5_7 hm hms hg h7
   by_cases h3 : m.m.so = 3
   · exact rR5_3 hm hms hg h3
   by_cases h6 : m.m.so = 6
   · exact rR5_6 hm hms hg h6
   by_cases h8 : m.m.so = 8
   · exact rR5_8 hm hms hg h8
   by_cases h4 : m.m.so = 4
   · rcases hF : fullB m.m.ft m.f with _ | _ <;> rcases hA : fullB m.m.xt m.a with _ | _
     · exact rR5_4ff hm hms hg h4 hF hA
     · exact rR5_4ft hm hms hg h4 hF hA
     · exact rR5_4tf hm hms hg h4 hF hA
     · exact rR5_4tt hm hms hg h4 hF hA
   · exact rR5_x hm hms hg ⟨h0, h1, h2, h5, h7, h3, h6, h8, h4⟩
 · exact rR5_b hm hms hg
end Go.Proofs.YtplodoindppleaaGreat
