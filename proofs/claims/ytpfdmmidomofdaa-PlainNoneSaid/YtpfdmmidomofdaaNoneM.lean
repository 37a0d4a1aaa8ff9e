/-
  A run of a net none of whose transitions may fire: nothing happens, at any horizon.
  Conditions: none beyond each theorem's own.
-/
import Derived.Test.YtpfdmmidomofdaaRunG
import Derived.Test.YtpfdmmidomofdaaMakeB
namespace Go.Proofs.Ytpfdmmidomofdaa
open Go.RowKit
set_option linter.unusedVariables false

theorem arrive_start (n : Nt) (t : Int) : arrive t (start n) = start n := rfl
theorem instAll_dead {n : Nt} (t : Int) (hb : bestTo (n.places.map (·.tok)) n.trans n.trans.length < 0) :
    instAll n.trans t (start n) = (start n, 0) := by
  unfold instAll; rw [arrive_start]; exact inst_stop hb
theorem runN_dead {n : Nt} {h : Int} (hb : bestTo (n.places.map (·.tok)) n.trans n.trans.length < 0) :
    runN n h = (start n, 0, 0) := by
  unfold runN
  by_cases h0 : 0 ≤ h
  · rw [if_pos h0, times, instAll_dead 0 hb]
    have e : nextT (start n).q = -1 := rfl
    rw [e, if_neg (by simp), if_neg (by omega)]
  · rw [if_neg h0]
/-- none of a net's transitions may fire -/
theorem bestTo_dead {m : List Int} {ts : List Tr} (h : ∀ x ∈ ts, mayB m x.inn x.nt = false) : ∀ k, bestTo m ts k < 0 := by
  intro k
  by_cases hk : 0 ≤ bestTo m ts k
  · obtain ⟨x, hx, hm⟩ := bestTo_may m ts k hk
    rw [h x (List.mem_of_getElem? hx)] at hm; cases hm
  · omega

/-! the net of the law: up to twenty places, and two transitions that never may -/
def nonePls (ts : List Nat) (k : Nat) : List Pl := (List.range k).map fun k => ⟨nameP k, ((ts.getD k 0 : Nat) : Int)⟩
def noneT : Tr := ⟨⟨#[116]⟩, 0, 0, [(0, 256)], [], []⟩
def noneU : Tr := ⟨⟨#[117]⟩, 0, 0, [(0, 1)], [(0, 1)], []⟩
def noneTrs (ts : List Nat) (never : Bool) : List Tr := if never = true ∧ 0 < ts.length then [noneT, noneU] else []
def noneN (ts : List Nat) (never : Bool) : Nt := ⟨nonePls ts ts.length, noneTrs ts never⟩
theorem nonePls_succ (ts : List Nat) (k : Nat) : nonePls ts (k + 1) = nonePls ts k ++ [⟨nameP k, ((ts.getD k 0 : Nat) : Int)⟩] := by
  simp [nonePls, List.range_succ]
theorem nonePls_len (ts : List Nat) (k : Nat) : (nonePls ts k).length = k := by simp [nonePls]
theorem nonePls_at (ts : List Nat) {k i : Nat} (h : i < k) : (nonePls ts k)[i]? = some ⟨nameP i, ((ts.getD i 0 : Nat) : Int)⟩ := by
  simp [nonePls, h]
theorem noneN_marks_at (ts : List Nat) (never : Bool) {i : Nat} (h : i < ts.length) : ((noneN ts never).places.map (·.tok))[i]? = some ((ts.getD i 0 : Nat) : Int) := by
  simp [noneN, nonePls, h]
theorem noneN_dead {ts : List Nat} (never : Bool) (h : ∀ t ∈ ts, t < 256) : bestTo ((noneN ts never).places.map (·.tok)) (noneN ts never).trans (noneN ts never).trans.length < 0 := by
  refine bestTo_dead ?_ _
  intro x hx
  unfold noneN noneTrs at hx
  simp only at hx
  split at hx
  · rename_i hc
    have hz := noneN_marks_at ts never hc.2
    have hlt : ts.getD 0 0 < 256 := by
      rw [List.getD_eq_getElem?_getD, List.getElem?_eq_getElem hc.2]; exact h _ (List.getElem_mem hc.2)
    have hg : getI ((noneN ts never).places.map (·.tok)) 0 = ((ts.getD 0 0 : Nat) : Int) := getI_at hz
    simp only [List.mem_cons, List.not_mem_nil, or_false] at hx
    rcases hx with rfl | rfl
    · simp only [List.getD_eq_getElem?_getD] at hlt hg
      simp [mayB, noneT, shortA, hg]; omega
    · simp [mayB, noneU, shortA, fullA, hg]
  · simp at hx
def noneNames (k : Nat) (b : Bool) : List ByteArray := (List.range k).map nameP ++ (if b = true then [⟨#[116]⟩, ⟨#[117]⟩] else [])
theorem noneN_names (ts : List Nat) (never : Bool) : (noneN ts never).names = noneNames ts.length (decide (never = true ∧ 0 < ts.length)) := by
  unfold Nt.names noneN noneNames noneTrs
  simp only [nonePls, List.map_map, Function.comp_def]
  by_cases hc : never = true ∧ 0 < ts.length
  · rw [if_pos hc, if_pos (by rw [decide_eq_true hc])]; rfl
  · rw [if_neg hc, if_neg (by rw [decide_eq_false hc]; simp)]; rfl
set_option maxRecDepth 100000 in
theorem noneNames_good : ∀ k, k < 21 → ∀ b, namesBad [] (noneNames k b) = false := by decide +kernel
theorem noneNames_size (k : Nat) (b : Bool) : ∀ s ∈ noneNames k b, s.size ≤ 1000 := by
  intro s hs
  unfold noneNames at hs
  rw [List.mem_append, List.mem_map] at hs
  rcases hs with ⟨k, _, rfl⟩ | hs
  · show (nameP k).data.size ≤ 1000; simp [nameP]
  · cases b
    · simp at hs
    · simp at hs
      rcases hs with rfl | rfl
      · decide
      · decide
theorem noneN_check {ts : List Nat} (never : Bool) (h : ∀ t ∈ ts, t < 256) (hl : ts.length ≤ 20) : checkN (noneN ts never) = 0 := by
  have h1 : tooLongB (noneN ts never) = false := by
    unfold tooLongB noneN noneTrs
    simp only [nonePls_len]
    rw [decide_eq_false (by omega)]
    split <;> simp [longT, Tr.most, noneT, noneU]
  have h2 : namesBad [] (noneN ts never).names = false := by rw [noneN_names]; exact noneNames_good _ (by omega) _
  have h3 : placesBad (noneN ts never).places = false := by
    unfold placesBad noneN nonePls
    simp only [List.any_eq_false, List.mem_map]
    rintro p ⟨k, hk, rfl⟩
    have hk' : k < ts.length := by simpa using hk
    have hlt : ts.getD k 0 < 256 := by
      rw [List.getD_eq_getElem?_getD, List.getElem?_eq_getElem hk']; exact h _ (List.getElem_mem hk')
    simp [numB] at hlt ⊢
    omega
  unfold checkN
  rw [if_neg (by rw [h1]; simp), if_neg (by rw [h2]; simp), if_neg (by rw [h3]; simp)]
  have e : (noneN ts never).places.length = ts.length := nonePls_len _ _
  rw [e]
  refine transErr_zero ?_
  intro t ht
  unfold noneN noneTrs at ht
  simp only at ht
  split at ht
  · rename_i hc
    simp only [List.mem_cons, List.not_mem_nil, or_false] at ht
    have f1 : Fine ts.length [((0 : Int), (256 : Int))] := .inr (.inl ⟨_, _, rfl, by omega, by omega, by omega, by omega⟩)
    have f2 : Fine ts.length [((0 : Int), (1 : Int))] := .inr (.inl ⟨_, _, rfl, by omega, by omega, by omega, by omega⟩)
    have f0 : Fine ts.length [] := .inl rfl
    rcases ht with rfl | rfl
    · refine ⟨rfl, ?_⟩
      show listsErr (ts.length : Int) [[((0 : Int), (256 : Int))], [], []] = 0
      rw [listsErr, if_pos f1.err, listsErr, if_pos f0.err, listsErr, if_pos f0.err]; rfl
    · refine ⟨rfl, ?_⟩
      show listsErr (ts.length : Int) [[((0 : Int), (1 : Int))], [((0 : Int), (1 : Int))], []] = 0
      rw [listsErr, if_pos f2.err, listsErr, if_pos f2.err, listsErr, if_pos f0.err]; rfl
  · simp at ht
/-- what the law asks of the run -/
theorem noneN_run {ts : List Nat} (never : Bool) (h : ∀ t ∈ ts, t < 256) (hz : Int) : runN (noneN ts never) hz = (start (noneN ts never), 0, 0) := runN_dead (noneN_dead never h)
end Go.Proofs.Ytpfdmmidomofdaa
