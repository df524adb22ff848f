/- The contract of the document's own answer: Check. -/
import Derived.Test.YtkicijgempccfaaConS1
import Derived.Test.YtkicijgempccfaaConS2
import Derived.Test.YtkicijgempccfaaConS3
import Derived.Test.YtkicijgempccfaaConS4
namespace Go.Proofs.Ytkicijgempccfaa.Con
open Go.RowKit Go.Proofs.Ytkicijgempccfaa.RatP Go.Proofs.Ytkicijgempccfaa.SatP Go.Proofs.Ytkicijgempccfaa.ConP Go.Proofs.Ytkicijgempccfaa.Rat
set_option linter.unusedVariables false

theorem refCheck_any (v : V) (hn : v.c.banks.length ≤ 1000) (hno : v.c.order.length ≤ 1000) (w : World) (hin : V.In w v) : Calls Try.prog 12 #[v.val] w (Says w (.bool (mayC v.c))) := by
  rcases first_last v.c with f0 | ⟨a0, f0⟩ | ⟨a0, b0, f1 | ⟨a1, f1⟩ | ⟨a1, b1, f2 | ⟨g2, f3 | ⟨g3, f4 | ⟨g4, f5 | ⟨g5, f6 | ⟨a6, f6⟩ | ⟨a6, b6, f7 | ⟨a7, f7⟩ | ⟨a7, b7, f8 | ⟨a8, f8⟩ | ⟨a8, b8⟩⟩⟩⟩⟩⟩⟩⟩⟩
  · exact refCheck_1 v hn hno w hin (.inl f0)
  · exact refCheck_1 v hn hno w hin (.inr (.inl ⟨a0, f0⟩))
  · exact refCheck_1 v hn hno w hin (.inr (.inr (.inl ⟨a0, b0, f1⟩)))
  · exact refCheck_1 v hn hno w hin (.inr (.inr (.inr (⟨a0, b0, a1, f1⟩))))
  · exact refCheck_2 v hn hno w hin (.inl ⟨a0, b0, a1, b1, f2⟩)
  · exact refCheck_2 v hn hno w hin (.inr (.inl ⟨a0, b0, a1, b1, g2, f3⟩))
  · exact refCheck_2 v hn hno w hin (.inr (.inr (.inl ⟨a0, b0, a1, b1, g2, g3, f4⟩)))
  · exact refCheck_2 v hn hno w hin (.inr (.inr (.inr (⟨a0, b0, a1, b1, g2, g3, g4, f5⟩))))
  · exact refCheck_3 v hn hno w hin (.inl ⟨a0, b0, a1, b1, g2, g3, g4, g5, f6⟩)
  · exact refCheck_3 v hn hno w hin (.inr (.inl ⟨a0, b0, a1, b1, g2, g3, g4, g5, a6, f6⟩))
  · exact refCheck_3 v hn hno w hin (.inr (.inr (.inl ⟨a0, b0, a1, b1, g2, g3, g4, g5, a6, b6, f7⟩)))
  · exact refCheck_3 v hn hno w hin (.inr (.inr (.inr (⟨a0, b0, a1, b1, g2, g3, g4, g5, a6, b6, a7, f7⟩))))
  · exact refCheck_4 v hn hno w hin (.inl ⟨a0, b0, a1, b1, g2, g3, g4, g5, a6, b6, a7, b7, f8⟩)
  · exact refCheck_4 v hn hno w hin (.inr (.inl ⟨a0, b0, a1, b1, g2, g3, g4, g5, a6, b6, a7, b7, a8, f8⟩))
  · exact refCheck_4 v hn hno w hin (.inr (.inr (⟨a0, b0, a1, b1, g2, g3, g4, g5, a6, b6, a7, b7, a8, b8⟩)))

end Go.Proofs.Ytkicijgempccfaa.Con
