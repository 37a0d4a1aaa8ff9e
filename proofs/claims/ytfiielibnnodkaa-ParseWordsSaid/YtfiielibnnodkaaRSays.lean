/-
  What the document's own parser says is what the program's parser says.
  Conditions: the text is at most 800000 bytes.
-/
import Derived.Test.YtfiielibnnodkaaQParse
import Derived.Test.YtfiielibnnodkaaPSames
namespace Go.Proofs.Ytfiielibnnodkaa
open Go.RowKit
set_option linter.unusedVariables false

theorem rparse_says : RParseSays := by
  intro w A n c l h hc hn
  refine (rparse_any h c hc hn).mono ?_
  rintro e w' ⟨v, rfl, hout, hb⟩
  refine ⟨v, rfl, ?_, hb⟩
  rcases hout with ⟨er, p, h1, h2, h3, rfl⟩ | ⟨T, h1, h2⟩
  · exact .inl ⟨(er : Int), p, by unfold parseL; rw [h1], by omega, rfl⟩
  · have hok := lexL_all l.length l 0 T (Nat.le_refl _) (by have := h.len; omega) h1
    have hp : parseL l = parseT T := by unfold parseL; rw [h1]
    have hE : endQ T = endD T := rfl
    rw [hE] at h2
    rcases parse_same hok.good hok.all with ⟨n', q1, q2, q3⟩ | ⟨er, p, q1, q2, q3, q4⟩
    · rcases h2 with ⟨h3, _⟩ | ⟨h3, vp, vt, h4, rfl⟩
      · exact absurd q2 h3
      · exact .inr ⟨n', vp, vt, by rw [hp, q1], by rw [q3] at h4; exact h4, rfl⟩
    · rcases h2 with ⟨h3, rfl⟩ | ⟨h3, _⟩
      · exact .inl ⟨er, p, by rw [hp, q1], q2, by rw [q3, q4]⟩
      · exact absurd (q3.symm.trans h3) q2
end Go.Proofs.Ytfiielibnnodkaa
