/- Plain facts on words: what IndexFunc finds in any string, by bytes. Nothing of the program stands in it. What the small functions of package lexer return: letters, digits, names, leading digits, printable texts. What Name of package lexer returns, and which texts are printable. -/
import Derived.Test.YthaacmmkignocaaDoorKG00
import Derived.Shelf.GgClosure.StringsIndexFunc
import Derived.Test.YthaacmmkignocaaDoorKZci
import Derived.Test.YthaacmmkignocaaDoorKG01
import Derived.Test.YthaacmmkignocaaDoorShelf
import Derived.WalkSpells
import Derived.WalkLawsBesides
import Derived.IntWalk
namespace Go.Proofs.YthaacmmkignocaaDoor
set_option linter.unusedVariables false
namespace Lx
open Go Go.Lib Go.Proofs.YthaacmmkignocaaDoor
def fi (p : Nat → Bool) : List UInt8 → Option Nat
  | [] => none
  | b :: t => if p b.toNat then some 0 else (fi p t).map (· + 1)
theorem get_drop (s : ByteArray) (i : Nat) (h : i < s.size) : s.data.toList.drop i = s.get! i :: s.data.toList.drop (i + 1) := by
  have hl : i < s.data.toList.length := by rw [← size_eq]; exact h
  rw [List.drop_eq_getElem_cons hl]
  congr 1
  obtain ⟨⟨l⟩⟩ := s
  simp only at hl
  show l[i] = (ByteArray.mk ⟨l⟩).get! i
  simp [ByteArray.get!, hl]
end Lx
end Go.Proofs.YthaacmmkignocaaDoor
namespace Go.Proofs.YthaacmmkignocaaDoor
open Go.RowKit
set_option linter.unusedVariables false
set_option linter.unusedSimpArgs false
end Go.Proofs.YthaacmmkignocaaDoor
namespace Go.Proofs.YthaacmmkignocaaDoor
open Go.RowKit
set_option linter.unusedVariables false
set_option linter.unusedSimpArgs false
end Go.Proofs.YthaacmmkignocaaDoor
