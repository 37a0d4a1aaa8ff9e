/-
  What an engine tells; one of its rows turned.
  Conditions: none beyond each theorem's own.
-/
import Derived.Test.YtpbbdnicafifpaaEgJ
import Derived.Test.YtpbbdnicafifpaaRunQ
namespace Go.Proofs.Ytpbbdnicafifpaa
open Go.RowKit
set_option linter.unusedVariables false

/-- what firings have told -/
def toldOf (c : EC) (lg : List (Int × Int)) : List Ev := lg.flatMap fun y => match c.n.trans[y.2.toNat]? with | some x => outs y.1 x.delay (awayL c x.out) | none => []
theorem toldOf_snoc {c : EC} {lg : List (Int × Int)} {t : Int} {i : Nat} {x : Tr} (hx : c.n.trans[i]? = some x) : toldOf c (lg ++ [(t, (i : Int))]) = toldOf c lg ++ outs t x.delay (awayL c x.out) := by
  unfold toldOf; rw [List.flatMap_append]; simp [hx]
theorem toldOf_len {c : EC} (hn : NOk c.n) (lg : List (Int × Int)) : (toldOf c lg).length ≤ 8 * lg.length := by
  induction lg with
  | nil => simp [toldOf]
  | cons y l ih =>
    have e : toldOf c (y :: l) = toldOf c [y] ++ toldOf c l := by unfold toldOf; simp
    have h1 : (toldOf c [y]).length ≤ 8 := by
      unfold toldOf
      simp only [List.flatMap_cons, List.flatMap_nil, List.append_nil]
      split
      · rename_i x hx
        have h2 : (awayL c x.out).length ≤ x.out.length := List.length_filter_le _ _
        have h3 := (hn.len x (hn.at_ hx)).2.2
        unfold outs; rw [List.length_map]; omega
      · simp
    rw [e, List.length_append, List.length_cons]; omega
theorem EgAt.turnR {w0 w w' : World} {c : EC} {e : Eg} {r r' : Row} (h : EgAt w0 w (c.plus r) e) (hk : Kept (fun k => r.v.ownBlock = some k) w w') (ho : r'.own w0.heap.size w') (hv : r'.v = r.v) : EgAt w0 w' (c.plus r') e := by
  have hr := h.beside
  obtain ⟨vd, vr, vo, vl, h1, h2⟩ := h
  rw [EC.plus_fix, ← List.append_assoc] at h1
  have h3 := AllOwn.swap (pre := egRows c vd vr vo vl e ++ c.fix) (r := r) (r' := r') (post := []) h1 hk ho (.inl (by rw [hv]))
  refine ⟨vd, vr, vo, vl, by rw [EC.plus_fix, ← List.append_assoc]; exact h3, h2.trans (hk.below (fun k hk => (Row.lt hr hk).1) h2.size)⟩
end Go.Proofs.Ytpbbdnicafifpaa
