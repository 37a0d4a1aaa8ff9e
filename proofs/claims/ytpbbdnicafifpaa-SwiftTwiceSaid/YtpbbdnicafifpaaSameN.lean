/-
  What the document's own Same comes to: are two nets one?
  Conditions: none beyond each theorem's own.
-/
import Derived.Test.YtpbbdnicafifpaaNetW
namespace Go.Proofs.Ytpbbdnicafifpaa
open Go.RowKit
set_option linter.unusedVariables false

/-- two lists, element by element -/
def eqL {α : Type} (f : α → α → Bool) : List α → List α → Bool
  | [], [] => true
  | a :: l, b :: m => f a b && eqL f l m
  | _, _ => false
def eqFrom {α : Type} (f : α → α → Bool) (l m : List α) (k : Nat) : Bool := eqL f (l.drop k) (m.drop k)

section
variable {α : Type} {f : α → α → Bool} {l m : List α} {k : Nat} {a b : α}
theorem eqFrom_zero : eqFrom f l m 0 = eqL f l m := rfl
theorem eqFrom_step (h1 : l[k]? = some a) (h2 : m[k]? = some b) : eqFrom f l m k = (f a b && eqFrom f l m (k + 1)) := by
  unfold eqFrom; rw [drop_at h1, drop_at h2]; rfl
theorem eqFrom_end (h1 : l.length ≤ k) (h2 : m.length ≤ k) : eqFrom f l m k = true := by
  unfold eqFrom; rw [List.drop_eq_nil_of_le h1, List.drop_eq_nil_of_le h2]; rfl
theorem eqL_len : ∀ {l m : List α}, l.length ≠ m.length → eqL f l m = false
  | [], [], h => absurd rfl h
  | [], _ :: _, _ => rfl
  | _ :: _, [], _ => rfl
  | a :: l, b :: m, h => by
    have : eqL f l m = false := eqL_len (fun e => h (by simp [e]))
    simp [eqL, this]
theorem eqL_refl (hf : ∀ a, f a a = true) : ∀ l : List α, eqL f l l = true
  | [] => rfl
  | a :: l => by simp [eqL, hf a, eqL_refl hf l]
theorem eqL_eq (hf : ∀ a b, f a b = true → a = b) : ∀ {l m : List α}, eqL f l m = true → l = m
  | [], [], _ => rfl
  | [], _ :: _, h => by cases h
  | _ :: _, [], h => by cases h
  | a :: l, b :: m, h => by
    simp [eqL] at h
    rw [hf a b h.1, eqL_eq hf h.2]
end

def arcE (a b : Int × Int) : Bool := (a.1 == b.1) && (a.2 == b.2)
def plE (p q : Pl) : Bool := sEq p.name q.name && (p.tok == q.tok)
def trE (s t : Tr) : Bool := sEq s.name t.name && ((s.delay == t.delay) && ((s.prio == t.prio) && (eqL arcE s.inn t.inn && (eqL arcE s.nt t.nt && eqL arcE s.out t.out))))
def sameN (a b : Nt) : Bool := eqL plE a.places b.places && eqL trE a.trans b.trans

theorem sEq_refl (s : ByteArray) : sEq s s = true := by simp [sEq]
theorem sEq_eq {s t : ByteArray} (h : sEq s t = true) : s = t := by
  unfold sEq at h
  have h : s.data.toList = t.data.toList := by simpa using h
  apply ByteArray.ext
  exact Array.toList_inj.1 h
theorem arcE_refl (a : Int × Int) : arcE a a = true := by simp [arcE]
theorem sameN_refl (n : Nt) : sameN n n = true := by
  unfold sameN
  rw [eqL_refl (fun p => by simp [plE, sEq_refl]), eqL_refl (fun t => by simp [trE, sEq_refl, eqL_refl arcE_refl])]
  rfl
theorem sameN_eq {a b : Nt} (h : sameN a b = true) : a = b := by
  unfold sameN at h
  simp at h
  have ha : ∀ a b, arcE a b = true → a = b := fun a b h => by simp [arcE] at h; exact Prod.ext h.1 h.2
  have h1 := eqL_eq (f := plE) (fun p q h => by
    simp [plE] at h
    cases p; cases q; simp at h; rw [sEq_eq h.1, h.2]) h.1
  have h2 := eqL_eq (f := trE) (fun p q h => by
    simp [trE] at h
    cases p; cases q; simp at h
    rw [sEq_eq h.1, h.2.1, h.2.2.1, eqL_eq ha h.2.2.2.1, eqL_eq ha h.2.2.2.2.1, eqL_eq ha h.2.2.2.2.2]) h.2
  cases a; cases b; simp at h1 h2; rw [h1, h2]

set_option maxRecDepth 100000 in
set_option maxHeartbeats 1000000 in
theorem sameArcs_any {w : World} {l m : List (Int × Int)} {a b : Option Addr} {n1 n2 c1 c2 : Nat} (hn1 : n1 = l.length) (hn2 : n2 = m.length) (h1 : ArcsAt w (.slice a n1 c1) l) (h2 : ArcsAt w (.slice b n2 c2) m) :
    Calls Try.prog 69 #[.slice a n1 c1, .slice b n2 c2] w fun e w' => e = .returned (.bool (eqL arcE l m)) ∧ Below w.heap.size w w' := by
  have hm1 : n1 ≤ 9223372036854775807 := by have := RowAt.max h1; omega
  have H1 := Lib.hid h1
  have H2 := Lib.hid h2
  have Hn1 := Lib.hid hn1
  have Hn2 := Lib.hid hn2
  obtain ⟨q, hq⟩ : ∃ q, q = eqL arcE l m := ⟨_, rfl⟩
  rw [← hq]
  by_cases hne : n1 = n2
  · have Hq : Hid (q = eqFrom arcE l m 0) := Lib.hid hq
    clear h1 h2 hn1 hn2 hq
    subst hne
    go_enter Try.func69, Try.ntmps69
    go_wp2
    go_loopw [5] (fun i wr => ∃ k : Nat, k ≤ n1 ∧ i = .int .i64 k ∧ Below w.heap.size w wr ∧ Hid (q = eqFrom arcE l m k)) (fun i _ => n1 - (intOf i).toNat)
    case atStart => exact ⟨0, by omega, rfl, Below.refl _ _, Hq⟩
    case round =>
      obtain ⟨k, hk, rfl, hb, Hk⟩ := hrel
      by_cases hlt : k < n1
      · obtain ⟨⟨x, y⟩, hx⟩ := at_lt (l := l) (k := k) (by rw [← Hn1.out]; exact hlt)
        obtain ⟨⟨x', y'⟩, hx'⟩ := at_lt (l := m) (k := k) (by rw [← Hn2.out]; exact hlt)
        have hlti : (k : Int) < (n1 : Int) := by omega
        obtain ⟨b1, off1, rfl, hb1, e0, e1⟩ := ArcsAt.at_ (H1.out.below hb) hx
        obtain ⟨b2, off2, rfl, hb2, e2, e3⟩ := ArcsAt.at_ (H2.out.below hb) hx'
        have Hs : Hid (eqFrom arcE l m k = (((x == x') && (y == y')) && eqFrom arcE l m (k + 1))) := Lib.hid (eqFrom_step hx hx')
        have Hb := Lib.hid hb
        clear hx hx' hb
        by_cases hxx : x = x'
        · subst hxx
          by_cases hyy : y = y'
          · subst hyy
            have Hr : Hid (q = eqFrom arcE l m (k + 1)) := Lib.hid (by rw [Hk.out, Hs.out]; simp)
            clear Hs
            go_wp2
            go_quiet (fail)
            have HB := Lib.hid (below_drews Hb.out nq)
            go_wp2
            go_roundw
            case rel => exact ⟨k + 1, by omega, by go_num, HB.out, Hr⟩
            case measure => simp [intOf]; omega
          · have hyb : (y == y') = false := by simpa using hyy
            obtain rfl : q = false := by rw [Hk.out, Hs.out, hyb]; simp
            clear Hs
            go_wp2
            go_quiet (fail)
            have HB := Lib.hid (below_drews Hb.out nq)
            go_wp2
            go_ret
            exact ⟨rfl, HB.out⟩
        · have hxb : (x == x') = false := by simpa using hxx
          obtain rfl : q = false := by rw [Hk.out, Hs.out, hxb]; simp
          clear Hs
          go_wp2
          go_quiet (fail)
          have HB := Lib.hid (below_drews Hb.out nq)
          go_wp2
          go_ret
          exact ⟨rfl, HB.out⟩
      · have hge : ¬ (k : Int) < (n1 : Int) := by omega
        have Hr : Hid (q = true) := Lib.hid (by rw [Hk.out]; exact eqFrom_end (by rw [← Hn1.out]; omega) (by rw [← Hn2.out]; omega))
        have Hb := Lib.hid hb
        clear hb
        go_wp2
        go_ret
        exact ⟨by rw [Hr.out]; rfl, Hb.out⟩
  · have hneb : ((n1 : Int) == (n2 : Int)) = false := by simp; omega
    obtain rfl : q = false := by rw [hq]; exact eqL_len (by rw [← hn1, ← hn2]; exact hne)
    clear h1 h2 hn1 hn2 hq hne
    go_enter Try.func69, Try.ntmps69
    go_wp2
    go_ret
    exact ⟨rfl, Below.refl _ _⟩
end Go.Proofs.Ytpbbdnicafifpaa
