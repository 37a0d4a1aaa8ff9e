/-
  A region that draws its order, of which the first operations stand in one order: moves, and such as the others wait for; the rest only reads: one walk, in the order of the text.
  Conditions: none beyond each theorem's own.
-/
import Derived.Test.YtpllpofoclijlaaBase4
import Derived.Deep.QuietTactic
import Derived.BigQuiet
import Derived.Deep.RegionHeld3
namespace Go.Proofs.Ytpllpofoclijlaa
open Go.RowKit
set_option linter.unusedVariables false

/-- is it a move, that nothing guards? -/
def moveB (o : Oper) : Bool := match o.op, o.guard with | .move _, none => true | _, _ => false
/-- the first so many operations, from number k on, come one by one -/
def headB (md : Region.Mode) (ops : Array Oper) : Nat → Nat → Array Bool → Bool
  | 0, _, _ => true
  | n + 1, k, listed => (Region.ready md ops listed == [k] || ((Region.ready md ops listed).contains k && Region.free md ops listed k && ((ops[k]?).map moveB).getD false)) && headB md ops n (k + 1) (listed.setIfInBounds k true)
def listTo : Nat → Nat → Array Bool → Array Bool
  | 0, _, listed => listed
  | n + 1, k, listed => listTo n (k + 1) (listed.setIfInBounds k true)

theorem wpOp_of {P : Program} {ops : Array Oper} {Q : Exit → Act → World → Prop} {K K' : Act → World → Prop} {o : Oper} {k : Nat} {a : Act} {w : World} (ho : ops[k]? = some o)
    (h : if Region.wanted o (yielded ops a.tmps) then o.wp P a w K (Exit.then K' Q) ∨ (o.asks P a w ∧ LetsOut (Exit.then K' Q)) else K (a.put o.dst undef) w) : wpOp P ops Q k K a w := by
  have hl : LetsOut (Exit.then K' Q) → LetsOut Q := fun ⟨a, w, h⟩ => ⟨a, w, h⟩
  unfold wpOp
  simp only [ho]
  split at h
  · rename_i hw
    rw [if_pos hw]
    rcases h with h | ⟨h1, h2⟩
    · refine .inl ?_
      unfold Oper.wp at h ⊢
      revert h
      generalize (execOp a.eval o).run P w = r
      intro h
      match r, h with
      | .ok (.value v) w', h => exact h
      | .ok .skip w', h => exact h
      | .ok (.defer d) w', h => exact h
      | .ok (.enter f args) w', h =>
        refine Calls.mono h ?_
        intro e w'' he
        match e, he with
        | .returned v, he => exact he
        | .panicked c, he => exact he
        | .outgrown, he => exact hl he
      | .ok (.row row args) w', h => exact h
      | .halt (.panic v) w', h => exact h
    · exact .inr ⟨h1, hl h2⟩
  · rename_i hw
    rw [if_neg hw]
    exact h

theorem move_yields {P : Program} {ops : Array Oper} {o : Oper} {x : Operand} (a : Act) (hg : o.guard = none) (ho : o.op = .move x) : Region.wanted o (yielded ops a.tmps) = true ∧ ∀ w, (execOp a.eval o).run P w = .ok (.value (a.eval x)) w := by
  refine ⟨by unfold Region.wanted; rw [hg], fun w => ?_⟩
  unfold execOp
  simp only [ho, Sem.run_pure]

theorem move_no_asks {P : Program} {o : Oper} {x : Operand} (a : Act) (w : World) (ho : o.op = .move x) : ¬ o.asks P a w := by
  rintro ⟨h, _⟩
  unfold execOp at h
  simp only [ho] at h
  exact absurd (show noRoomEvent ∈ (#[] : Array Event) from h) (by simp)

theorem wpAny_head {K : Act → World → Prop} {P : Program} {md : Region.Mode} {ops : Array Oper} {Q : Exit → Act → World → Prop} (hs : Region.noSelect ops = true) (hQ : ∀ c (d : Option Tmp) v (a : Act) w, Q (.panic c) (a.put d v) w → Q (.panic c) a w) :
    ∀ (l : List Oper) (g k : Nat) (listed : Array Bool) (a : Act) (w : World), (∀ j, j < l.length → l[j]? = ops[k + j]?) → headB md ops l.length k listed = true →
      (∀ a w, K a w → wpAny P md ops Q g (listTo l.length k listed) a w) → wpList P ops (Exit.then K Q) l a w → wpAny P md ops Q (g + l.length) listed a w
  | [], g, k, listed, a, w, _, _, hK, h => hK a w h
  | o :: l, g, k, listed, a, w, hl, hB, hK, h => by
    have h0 : ops[k]? = some o := by simpa using (hl 0 (by simp)).symm
    simp only [List.length_cons, headB, Bool.and_eq_true, Bool.or_eq_true] at hB
    obtain ⟨hr, hB'⟩ := hB
    have ih : ∀ a w, wpList P ops (Exit.then K Q) l a w → wpAny P md ops Q (g + l.length) (listed.setIfInBounds k true) a w :=
      fun a w h => wpAny_head hs hQ l g (k + 1) _ a w (fun j hj => by have := hl (j + 1) (by simpa using hj); simpa [Nat.add_assoc, Nat.add_comm 1 j] using this) hB' hK h
    unfold wpList at h
    rcases hr with hr | ⟨⟨hr, hf⟩, hm⟩
    · rw [beq_iff_eq] at hr
      refine wpAny_all hr (by simp) ?_
      intro i hi
      rw [List.mem_singleton] at hi
      subst hi
      exact wpOp_mono ih (wpOp_of h0 h)
    · rw [h0] at hm
      simp only [Option.map_some, Option.getD_some] at hm
      unfold moveB at hm
      split at hm
      · rename_i x ho hg
        obtain ⟨hw, hv⟩ := move_yields (P := P) (ops := ops) a hg ho
        rw [if_pos hw] at h
        rcases h with h | ⟨h1, _⟩
        · unfold Oper.wp at h
          rw [hv w] at h
          exact wpAny_take h0 hs hf hr (hQ · o.dst _ · ·) (.inl ⟨hw, hv⟩) (ih _ _ h)
        · exact absurd h1 (move_no_asks a w ho)
      · cases hm

/-- the first n operations one by one; behind them what only reads, in whatever order -/
theorem wp_region_head {P : Program} {id : Nat} {Q : Exit → Act → World → Prop} {a : Act} {w : World} {pre suf : List Oper} (hm : P.follows .mixedOrders = true) (hs : Region.noSelect (pre ++ suf).toArray = true)
    (hB : headB .any (pre ++ suf).toArray pre.length 0 (Array.replicate (pre ++ suf).length false) = true) (hS : Region.lexFrom .any (pre ++ suf).toArray suf.length pre.length (listTo pre.length 0 (Array.replicate (pre ++ suf).length false)) = true)
    (hQ : ∀ c (d : Option Tmp) v (a : Act) w, Q (.panic c) (a.put d v) w → Q (.panic c) a w)
    (h : wpList P (pre ++ suf).toArray (Exit.then (fun a' w' => wpQuiet P (pre ++ suf).toArray (fun w'' => ∃ n, w'' = w'.drewN n) (fun a'' => ∀ w'', (∃ n, w'' = w'.drewN n) → Q .normal a'' w'') suf a') Q) pre a w.drew) :
    (Code.region id (pre ++ suf).toArray true).wp P Q a w := by
  refine wp_region_any hm ?_
  have e : (pre ++ suf).toArray.size = suf.length + pre.length := by simp; omega
  have key : ∀ a' w', wpQuiet P (pre ++ suf).toArray (fun w'' => ∃ n, w'' = w'.drewN n) (fun a'' => ∀ w'', (∃ n, w'' = w'.drewN n) → Q .normal a'' w'') suf a' → wpAny P .any (pre ++ suf).toArray Q suf.length (listTo pre.length 0 (Array.replicate (pre ++ suf).length false)) a' w' := by
    intro a' w' h
    refine wpAny_of_quiet (C := fun w'' => ∃ n, w'' = w'.drewN n) (Q := fun a'' => ∀ w'', (∃ n, w'' = w'.drewN n) → Q .normal a'' w'') (fun _ w'' hw'' h => h w'' hw'') _ _ _ _ ⟨0, rfl⟩ ?_
    exact wpAnyQ_lex hs suf pre.length _ a' (fun j => by simp [List.getElem?_append_right]) hS h
  rw [e]
  have e2 : suf.length + pre.length = (pre ++ suf).length := by simp; omega
  have := wpAny_head (P := P) (Q := Q) hs hQ pre suf.length 0 (Array.replicate (pre ++ suf).length false) a w.drew (fun j hj => by simp [List.getElem?_append_left hj]) hB key h
  rw [e2] at this ⊢
  exact this

theorem wp_region_head_at (n : Nat) {P : Program} {id : Nat} {Q : Exit → Act → World → Prop} {a : Act} {w : World} {l : List Oper} (hm : P.follows .mixedOrders = true) (hs : Region.noSelect l.toArray = true) (hn : (decide (n ≤ l.length)) = true)
    (hB : headB .any l.toArray n 0 (Array.replicate l.length false) = true) (hS : Region.lexFrom .any l.toArray (l.length - n) n (listTo n 0 (Array.replicate l.length false)) = true)
    (h : wpList P l.toArray (Exit.then (fun a' w' => wpQuiet P l.toArray (fun w'' => ∃ n, w'' = w'.drewN n) (fun a'' => ∀ w'', (∃ n, w'' = w'.drewN n) → Q .normal a'' w'') (l.drop n) a') (NoPanic Q)) (l.take n) a w.drew) :
    (Code.region id l.toArray true).wp P Q a w := by
  have hn' := of_decide_eq_true hn
  have e := List.take_append_drop n l
  have e1 : (l.take n).length = n := List.length_take_of_le hn'
  have e2 : (l.drop n).length = l.length - n := List.length_drop
  have := wp_region_head (P := P) (id := id) (Q := NoPanic Q) (a := a) (w := w) (pre := l.take n) (suf := l.drop n) hm
  rw [e, e1, e2] at this
  exact wp_region_noPanic (this hs hB hS (fun c d v a w h => h) h)
end Go.Proofs.Ytpllpofoclijlaa
