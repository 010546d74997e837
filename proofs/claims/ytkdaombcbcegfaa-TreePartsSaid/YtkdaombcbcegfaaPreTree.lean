/-
  THE PROGRAM's tree: its six contracts (psame_any, plike_any, ptcount_any, pforced_any, pnotes_any, plits_any).
-/
import Derived.Test.YtkdaombcbcegfaaTreeNotesP
import Derived.Test.YtkdaombcbcegfaaTreeSame
