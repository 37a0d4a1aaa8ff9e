/-
  What the law's marks comes to: as many numbers as a net has places.
  Conditions: none beyond each theorem's own.
-/
import Derived.Test.YtpllpofoclijlaaMarkI
namespace Go.Proofs.Ytpllpofoclijlaa
open Go.RowKit
set_option linter.unusedVariables false

/-- the number for a place -/
def markAt (zs : List Int) (i : Nat) : Int := match zs[i]? with | some z => wrap64 ((IntKind.u64.wrap z).tmod 6) | none => 0
def marksTo (zs : List Int) (k : Nat) : List Int := (List.range k).map (markAt zs)
theorem marksTo_len (zs : List Int) (k : Nat) : (marksTo zs k).length = k := by simp [marksTo]
theorem marksTo_succ (zs : List Int) (k : Nat) : marksTo zs (k + 1) = marksTo zs k ++ [markAt zs k] := by simp [marksTo, List.range_succ]
theorem markAt_bd (zs : List Int) (i : Nat) : 0 ≤ markAt zs i ∧ markAt zs i < 6 := by
  unfold markAt
  split
  · rename_i z _
    have h1 : IntKind.u64.wrap z = z % 18446744073709551616 := by simp [IntKind.wrap, IntKind.bits, IntKind.signed]
    rw [h1, Int.tmod_eq_emod_of_nonneg (by omega)]
    unfold wrap64
    omega
  · omega

set_option maxRecDepth 100000 in
set_option maxHeartbeats 4000000 in
theorem marks_any {w : World} {ap al : Option Addr} {vt : Value} {cp np nl cl : Nat} {zs : List Int} (hp1 : np ≤ 1000000) (hl : nl = zs.length) (h : IntsAt w (.slice al nl cl) zs) :
    Calls Try.prog 15 #[.agg #[.slice ap np cp, vt], .slice al nl cl] w fun e w' => ∃ v, e = .returned v ∧ OwnI w.heap.size w' v (marksTo zs np) ∧ Below w.heap.size w w' := by
  have hx1 : nl ≤ 9223372036854775807 := by have := RowAt.max h; omega
  have Hl := Lib.hid hl
  have H := Lib.hid h
  clear hl h
  go_enter Try.func15, Try.ntmps15
  go_wp2
  go_loopw [5, 6] (fun v i wr => ∃ k : Nat, k ≤ np ∧ i = .int .i64 k ∧ OwnI (w.heap.size + 1) wr v (marksTo zs k) ∧ InBox w wr (.slice ap np cp) vt) (fun _ i _ => np - (intOf i).toNat)
  case atStart => exact ⟨0, by omega, rfl, ownNil _ _ _ _, InBox.start _ _ _⟩
  case round =>
    rename World => v1
    obtain ⟨k, hk, rfl, ho, hin⟩ := hrel
    obtain ⟨a5, c5, e5⟩ := ho.len
    rw [marksTo_len] at e5
    subst e5
    have d0 := hin.c0
    have hsz := hin.size
    by_cases hlt : k < np
    · have hlti : (k : Int) < (np : Int) := by omega
      have push : ∀ x : Int, x = markAt zs k → ∃ v' w', (Builtin.append_ #[42, 42] 42 #[.slice a5 k c5, .slice (some ⟨v1.heap.size, 0, none⟩) 1 1]).run Try.prog (v1.alloc (.cells #[.int .i64 x] 3)) = .ok v' w' ∧ OwnI (w.heap.size + 1) w' v' (marksTo zs (k + 1)) ∧ InBox w w' (.slice ap np cp) vt := by
        intro x hx
        obtain ⟨v', w', hr, h1, h2, h3⟩ := run_push_i 42 x ho (by rw [marksTo_len]; omega) (by omega)
        refine ⟨v', w', hr, by rw [marksTo_succ, ← hx]; exact h1, ?_⟩
        exact ⟨hin.below.trans (h2.below (fun j e => (Row.lt (r := intRow (.slice a5 k c5) (marksTo zs k)) ho e).1) (by omega))⟩
      by_cases hkl : k < nl
      · have hkli : (k : Int) < (nl : Int) := by omega
        obtain ⟨z, hz⟩ := at_lt (l := zs) (k := k) (by rw [← Hl.out]; exact hkl)
        obtain ⟨bl, ol, rfl, hbl, em⟩ := (H.out.below hin.old).at_ hz
        have hx2 : wrap64 ((IntKind.u64.wrap z).tmod 6) = markAt zs k := by unfold markAt; rw [hz]
        obtain ⟨v', w', hr, h1, h2⟩ := push _ hx2
        obtain ⟨a6, c6, e6⟩ := h1.len
        have H1 := Lib.hid h1
        have H2 := Lib.hid h2
        rw [marksTo_len] at e6
        subst e6
        clear push hz hx2 h1 h2 ho hin
        go_wp2_with (at_builtin; refine wpList_append_eq rfl (.tmp 26) (.tmp 28) 42 rfl rfl rfl hr ?_)
        go_roundw
        case rel => exact ⟨k + 1, by omega, by go_num, H1.out, H2.out⟩
        case measure => simp [intOf]; omega
      · have hkli : ¬ (k : Int) < (nl : Int) := by omega
        have hx2 : (0 : Int) = markAt zs k := by unfold markAt; rw [List.getElem?_eq_none (by rw [← Hl.out]; omega)]
        obtain ⟨v', w', hr, h1, h2⟩ := push 0 hx2
        obtain ⟨a6, c6, e6⟩ := h1.len
        have H1 := Lib.hid h1
        have H2 := Lib.hid h2
        rw [marksTo_len] at e6
        subst e6
        clear push hx2 h1 h2 ho hin
        go_wp2_with (at_builtin; refine wpList_append_eq rfl (.tmp 26) (.tmp 28) 42 rfl rfl rfl hr ?_)
        go_roundw
        case rel => exact ⟨k + 1, by omega, by go_num, H1.out, H2.out⟩
        case measure => simp [intOf]; omega
    · have hge : ¬ (k : Int) < (np : Int) := by omega
      obtain rfl : k = np := by omega
      have Ho : Hid (OwnI w.heap.size v1 (.slice a5 k c5) (marksTo zs k)) := Lib.hid (own_mono ho (by omega))
      have Hi := Lib.hid hin
      clear ho hin
      go_wp2
      go_ret
      exact ⟨_, rfl, Ho.out, Hi.out.old⟩

theorem ints_one2 (l : List Int) : ∀ u ∈ l.flatMap intL, u.oneCell' = true := by
  intro u hu
  rw [List.mem_flatMap] at hu
  obtain ⟨a, _, ha⟩ := hu
  simp only [intL, List.mem_cons, List.not_mem_nil, or_false] at ha
  subst ha; rfl
/-- 'append([]int(nil), x...)': new, and nothing else turned -/
theorem run_clone_ints {w : World} {x : Value} {k : List Int} (ty : TypeId) (hx : IntsAt w x k) (hl : k.length ≤ 1000000) :
    ∃ v' w', (Builtin.append_ #[42, 42] ty #[.slice none 0 0, x]).run Try.prog w = .ok v' w' ∧ OwnI w.heap.size w' v' k ∧ Below w.heap.size w w' := by
  obtain ⟨i0, hi0, hz0, hz1, hz2⟩ := info_parts Try.infoI
  obtain ⟨v', w', hr, h2, h3⟩ := run_append_own_src (P := Try.prog) w w.heap.size 42 42 ty 3 i0 _ 1 8 Try.underlying42 hi0 hz0 hz1 hz2 rfl (by omega) (.slice none 0 0) 0 [] (ownNil _ _ _ _) x k.length (k.flatMap intL) (RowAt.src hx Try.underlying42 (ints_one2 k)) (by unfold maxLen; omega) (by omega) (Nat.le_refl _)
  refine ⟨v', w', hr, by simpa using h2, ((Kept.refl _ w).grown h3 (S := fun _ => False) (fun k e => by cases e)).below (fun k e => e.elim) (Nat.le_refl _)⟩

/-- what is left of a place's tokens behind the first k arcs -/
def wantTo (li : List (Int × Int)) (i : Nat) (z : Int) (k : Nat) : Int := (li.take k).foldl (fun z a => if a.1 = (i : Int) then wrap64 (z - a.2) else z) z
theorem wantTo_succ {li : List (Int × Int)} {i : Nat} {z : Int} {k : Nat} {a : Int × Int} (h : li[k]? = some a) : wantTo li i z (k + 1) = if a.1 = (i : Int) then wrap64 (wantTo li i z k - a.2) else wantTo li i z k := by
  unfold wantTo; rw [take_at h, List.foldl_append]; rfl
theorem takeTo_get {li : List (Int × Int)} {m : List Int} (hf : Fits m.length li) {i : Nat} {z : Int} (hi : m[i]? = some z) : ∀ k, (takeTo li m k)[i]? = some (wantTo li i z k) := by
  intro k
  induction k with
  | zero => simpa [takeTo, wantTo] using hi
  | succ k ih =>
    by_cases hk : k < li.length
    · obtain ⟨a, ha⟩ := at_lt hk
      rw [takeTo_succ ha, wantTo_succ ha]
      obtain ⟨h0, h1⟩ := hf a (List.mem_of_getElem? ha)
      unfold stepT getI
      by_cases e : a.1 = (i : Int)
      · rw [if_pos e]
        have e2 : a.1.toNat = i := by omega
        rw [e2, List.getElem?_set_self (lt_at ih)]
        simp [List.getD, ih]
      · rw [if_neg e, List.getElem?_set_ne (by omega)]
        exact ih
    · have e : ∀ j, li.length ≤ j → takeTo li m j = takeL li m := fun j hj => takeTo_all hj
      have e2 : wantTo li i z (k + 1) = wantTo li i z k := by unfold wantTo; rw [List.take_of_length_le (by omega), List.take_of_length_le (by omega)]
      rw [e _ (by omega), ← e k (by omega), e2]
      exact ih
theorem OffBlock.of_at {w : World} {a : Option Addr} {n c : Nat} {l : List (Int × Int)} (h : ArcsAt w (.slice a n c) l) (hl : 0 < l.length) {b : Nat} (hb : w.heap.size ≤ b) : OffBlock (.slice a n c) b := by
  rintro k ⟨b', off, n', c', e, rfl⟩
  obtain ⟨x, hx⟩ := at_lt hl
  obtain ⟨b1, o1, e1, hb1, _⟩ := h.at_ (x := x.1) (y := x.2) hx
  injection e with e
  subst e
  injection e1 with e1
  injection e1 with e1
  omega

section
open Go.ChangeShapes Go.WideShapes Go.Deep Go.Joins
variable {H : Type} {enc : TypeId × Value → H} {w : World}
theorem int_dec (n : Nat) (cs : List Value) (x : DataW H × List MemPlace) (h : DataW.trod enc Try.prog w 0 (fun _ => true) true n 3 cs = some x) : ∃ a, cs = intL a ∧ True := by
  obtain ⟨a, rfl, _, hw⟩ := DataW.trod_int Try.underlying3 h
  exact ⟨a, rfl, trivial⟩
theorem ints_in {n : Nat} {v : Value} {x : DataW H × List MemPlace} (h : DataW.trod enc Try.prog w 0 (fun _ => true) true n 42 [v] = some x) : ∃ (zs : List Int) (a : Option Addr) (c : Nat), v = .slice a zs.length c ∧ IntsAt w v zs := by
  obtain ⟨zs, h1, _⟩ := row_in intL_len (by omega) Try.underlying42 cellsInt (0 : Int) (fun n cs x => int_dec n cs x) h
  obtain ⟨a, c, e⟩ := h1.len
  exact ⟨zs, a, c, e, h1⟩
end
end Go.Proofs.Ytpllpofoclijlaa
