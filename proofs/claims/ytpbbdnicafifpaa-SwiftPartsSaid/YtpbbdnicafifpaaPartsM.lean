/-
  The net of the law SwiftParts as data, what it comes to, and what is told.
  Conditions: fewer than 15 tokens, a delay below 9.
-/
import Derived.Test.YtpbbdnicafifpaaEgK
namespace Go.Proofs.Ytpbbdnicafifpaa
open Go.RowKit
set_option linter.unusedVariables false

def partsPls (k : Nat) : List Pl := [⟨⟨#[112]⟩, (k : Int)⟩, ⟨⟨#[113]⟩, 0⟩]
def partsT (w : Nat) : Tr := ⟨⟨#[116]⟩, (w : Int), 0, [(0, 1)], [], [(1, 3)]⟩
def partsU : Tr := ⟨⟨#[117]⟩, 0, 0, [(1, 1)], [], []⟩
def partsN (k w : Nat) : Nt := ⟨partsPls k, [partsT w, partsU]⟩
/-- as the engine sees it: what goes away is told, the other transition never may -/
def partsT' (w : Nat) : Tr := ⟨⟨#[116]⟩, (w : Int), 0, [(0, 1)], [], []⟩
def partsU' : Tr := ⟨⟨#[117]⟩, 0, 0, [(1, 1)], [(1, 1)], []⟩
def partsN' (k w : Nat) : Nt := ⟨partsPls k, [partsT' w, partsU']⟩

set_option maxRecDepth 100000 in
theorem parts_check : ∀ k, k < 15 → ∀ w, w < 9 → checkN (partsN k w) = 0 := by decide +kernel
set_option maxRecDepth 100000 in
theorem parts_check' : ∀ k, k < 15 → ∀ w, w < 9 → checkN (partsN' k w) = 0 := by decide +kernel
set_option maxRecDepth 100000 in
theorem parts_run : ∀ k, k < 15 → ∀ w, w < 9 → (instAll (partsN' k w).trans 0 (start (partsN' k w))).2 = 0 ∧ (instAll (partsN' k w).trans 0 (start (partsN' k w))).1.log = List.replicate k (0, 0) ∧ (instAll (partsN' k w).trans 0 (start (partsN' k w))).1.m = [0, 0] ∧ (instAll (partsN' k w).trans 0 (start (partsN' k w))).1.q.length = 0 := by decide +kernel

theorem parts_masked (k w : Nat) : Masked (partsN k w).trans (partsN' k w).trans (fun i => decide (i < 2) && [true].getD i false) (fun p => [false, true].getD p.toNat false) := by
  refine ⟨rfl, ?_, ?_⟩
  · intro i x hm hx
    match i, hm, hx with
    | 0, _, hx => exact ⟨partsT' w, rfl, by injection hx with hx; subst hx; exact ⟨rfl, rfl, rfl, rfl, rfl⟩⟩
    | n + 1, hm, _ => simp at hm
  · intro i hi hm m
    match i, hi, hm with
    | 0, _, hm => simp at hm
    | 1, _, _ =>
      show mayB m [(1, 1)] [(1, 1)] = false
      simp only [mayB, List.any_cons, List.any_nil, Bool.or_false, shortA, fullA]
      by_cases h : getI m 1 < 1
      · simp [h]
      · have : (1 : Int) ≤ getI m 1 := by omega
        simp [h, this]
    | n + 2, hi, _ => exact absurd hi (by show ¬ n + 2 < 2; omega)

theorem parts_told {c : EC} {k w : Nat} (hn : c.n = partsN k w) (ha : c.aw = [false, true]) : ∀ j, toldOf c (List.replicate j (0, 0)) = List.replicate j ⟨(w : Int), 1, 3⟩ := by
  intro j
  induction j with
  | zero => rfl
  | succ j ih =>
    have h1 : toldOf c (((0 : Int), (0 : Int)) :: List.replicate j (0, 0)) = toldOf c [((0 : Int), (0 : Int))] ++ toldOf c (List.replicate j (0, 0)) := by unfold toldOf; simp
    have h2 : toldOf c [((0 : Int), (0 : Int))] = [⟨(w : Int), 1, 3⟩] := by
      unfold toldOf
      rw [hn]
      show outs 0 (w : Int) (awayL c [(1, 3)]) ++ [] = _
      unfold awayL awB
      rw [ha]
      simp [outs]
    rw [List.replicate_succ, List.replicate_succ, h1, h2, ih]
    rfl
end Go.Proofs.Ytpbbdnicafifpaa
