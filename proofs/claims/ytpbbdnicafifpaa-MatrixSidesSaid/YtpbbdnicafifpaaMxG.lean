/-
  Slices of ints that came in, each of them an int. The law MatrixZeros walked.
  Conditions: none beyond each theorem's own.
-/
import Derived.Test.YtpbbdnicafifpaaMx2
import Derived.OpenShut
import Derived.ChangeOld
namespace Go.Proofs.Ytpbbdnicafifpaa
open Go.RowKit Go.ChangeShapes Go.WideShapes
set_option linter.unusedVariables false

section
variable {w : World} {H : Type} {enc : TypeId × Value → H}
theorem cellsInt2 : Try.prog.cellsOf 3 = 1 := by kernel_rfl
theorem int_dec2 (n : Nat) (cs : List Value) (x : DataW H × List MemPlace) (h : DataW.trod enc Try.prog w 0 (fun _ => true) true n 3 cs = some x) : ∃ a, cs = intL a ∧ I64 a := by
  obtain ⟨a, rfl, _, hw⟩ := DataW.trod_int Try.underlying3 h
  exact ⟨a, rfl, bounds_i64 hw⟩
theorem ints_in2 {n : Nat} {v : Value} {x : DataW H × List MemPlace} (h : DataW.trod enc Try.prog w 0 (fun _ => true) true n 39 [v] = some x) : ∃ (zs : List Int) (a : Option Addr) (c : Nat), v = .slice a zs.length c ∧ IntsAt w v zs ∧ Ints zs := by
  obtain ⟨zs, h1, h2⟩ := row_in intL_len (by omega) Try.underlying39 cellsInt2 (0 : Int) (fun n cs x => int_dec2 n cs x) h
  obtain ⟨a, c, e⟩ := h1.len
  exact ⟨zs, a, c, e, h1, h2⟩
end

theorem zeroB_rep (m : Nat) : zeroB (List.replicate m 0) = true := by
  unfold zeroB; rw [List.all_eq_true]; intro x hx; rw [List.eq_of_mem_replicate hx]; rfl
theorem zeroB_set {m k : Nat} (h : k < m) : zeroB ((List.replicate m (0 : Int)).set k (-1)) = false := by
  unfold zeroB
  rw [List.all_eq_false]
  exact ⟨-1, List.mem_iff_getElem?.2 ⟨k, by simp [h]⟩, by decide⟩
/-- are the first k noughts? -/
def zeroTo (l : List Int) (k : Nat) : Bool := zeroB (l.take k)
theorem zeroTo_succ {l : List Int} {k : Nat} {x : Int} (h : l[k]? = some x) : zeroTo l (k + 1) = (zeroTo l k && (x == 0)) := by
  unfold zeroTo zeroB; rw [take_at h, List.all_append]; simp

set_option maxRecDepth 100000 in
set_option maxHeartbeats 4000000 in
theorem zeros_big {w : World} {al : Option Addr} {n cl : Nat} {a : Int} (hn : n ≤ 9223372036854775807) (h : 20 < n) :
    Calls Try.prog 5 #[.slice al n cl, .int .u8 a] w fun e w' => e = .returned (.bool true) ∧ Below w.heap.size w w' := by
  have h1i : (20 : Int) < (n : Int) := by omega
  go_enter Try.func5, Try.ntmps5
  go_wp2_with fail
  refine (awake11 _).mono ?_
  rintro e w1 ⟨rfl, hb⟩
  have Hb := Lib.hid hb
  clear hb
  go_wp2_with fail
  refine (awake11 _).mono ?_
  rintro e w2 ⟨rfl, hb⟩
  have Hb2 := Lib.hid (Hb.out.trans (hb.mono Hb.out.size))
  clear hb
  go_wp2
  go_ret
  exact ⟨rfl, Hb2.out⟩

set_option maxRecDepth 100000 in
set_option maxHeartbeats 4000000 in
theorem zeros_small {w : World} {al : Option Addr} {n cl m : Nat} {a : Int} {zs : List Int} (ha : 0 ≤ a ∧ a ≤ 255) (hm : (m : Int) = a % 9) (hn : n = zs.length) (hl : IntsAt w (.slice al n cl) zs) (h : n ≤ 20) :
    Calls Try.prog 5 #[.slice al n cl, .int .u8 a] w fun e w' => e = .returned (.bool true) ∧ Below w.heap.size w w' := by
  obtain ⟨ha0, ha1⟩ := ha
  have h1i : ¬ (20 : Int) < (n : Int) := by omega
  have hm' : a % 9 = (m : Int) := hm.symm
  have hm9 : m < 9 := by omega
  have Hn := Lib.hid hn
  have Hl := Lib.hid hl
  clear hn hl hm
  go_enter Try.func5, Try.ntmps5
  go_wp2_with fail
  refine (awake11 _).mono ?_
  rintro e w1 ⟨rfl, hb⟩
  have Hb := Lib.hid hb
  have Hl1 := Lib.hid (Hl.out.below hb)
  clear hb
  go_wp2
  go_loop [5, 6] (fun z i => ∃ k : Nat, ∃ q : Bool, k ≤ n ∧ i = .int .i64 k ∧ z = .bool q ∧ Hid (q = zeroTo zs k)) (fun _ i => n - (intOf i).toNat)
  case atStart => exact ⟨0, true, by omega, rfl, rfl, Lib.hid rfl⟩
  case round =>
    obtain ⟨k, q, hk, rfl, rfl, Hq⟩ := hrel
    by_cases hlt : k < n
    · have hlti : (k : Int) < (n : Int) := by omega
      obtain ⟨x, hx⟩ := at_lt (l := zs) (k := k) (by rw [← Hn.out]; exact hlt)
      obtain ⟨b, off, rfl, hb, e0⟩ := IntsAt.at_ Hl1.out hx
      have hs := zeroTo_succ hx
      rw [← Hq.out] at hs
      have Hs := Lib.hid hs
      clear hs hx
      cases q with
      | true =>
        cases hz : (x == 0) with
        | true =>
          have Hs2 : Hid (true = zeroTo zs (k + 1)) := Lib.hid (by rw [Hs.out, hz]; rfl)
          go_wp2
          go_round
          case rel => exact ⟨k + 1, true, by omega, by go_num, rfl, Hs2⟩
          case measure => simp [intOf]; omega
        | false =>
          have Hs2 : Hid (false = zeroTo zs (k + 1)) := Lib.hid (by rw [Hs.out, hz]; rfl)
          go_wp2
          go_round
          case rel => exact ⟨k + 1, false, by omega, by go_num, rfl, Hs2⟩
          case measure => simp [intOf]; omega
      | false =>
        have Hs2 : Hid (false = zeroTo zs (k + 1)) := Lib.hid (by rw [Hs.out]; rfl)
        go_wp2
        go_round
        case rel => exact ⟨k + 1, false, by omega, by go_num, rfl, Hs2⟩
        case measure => simp [intOf]; omega
    · have hge : ¬ (k : Int) < (n : Int) := by omega
      have Hz : Hid (q = zeroB zs) := Lib.hid (by rw [Hq.out]; unfold zeroTo; rw [List.take_of_length_le (by rw [← Hn.out]; omega)])
      clear Hq
      obtain ⟨w2, hmk, ho, hb2⟩ := run_make_ints m (by omega) w1
      have Hzz := Lib.hid (zero_any Hn.out (Hl1.out.below hb2) q Hz.out)
      have Hz1 := Lib.hid (zero_any (n := m) (by simp) ho.at_ true (zeroB_rep m).symm)
      have Hz2 := Lib.hid (zero_any (w := w2) (n := 0) (l := []) (a := none) (cap := 0) rfl (RowAt.nil _ _) true rfl)
      have hq : (q != q) = false := by simp
      have Ho := Lib.hid ho
      have Hb2 := Lib.hid (Hb.out.trans (hb2.mono Hb.out.size))
      have hsz : w1.heap.size ≤ w2.heap.size := hb2.size
      have hsz0 : w.heap.size ≤ w1.heap.size := Hb.out.size
      clear ho hb2
      by_cases hm0 : 0 < m
      · have hm0i : (0 : Int) < (m : Int) := by omega
        obtain ⟨kk, hkk⟩ : ∃ kk : Nat, (kk : Int) = a % (m : Int) := ⟨(a % (m : Int)).toNat, by have := Int.emod_nonneg a (show (m : Int) ≠ 0 by omega); omega⟩
        have hkm : kk < m := by have := Int.emod_lt_of_pos a hm0i; omega
        have hkmi : (kk : Int) < (m : Int) := by omega
        have hkk' : a % (m : Int) = (kk : Int) := hkk.symm
        have c0 := Ho.out.cell (k := kk) (z := 0) (by simp [hkm])
        have f0 := Ho.out.froz kk
        have hlt2 := Ho.out.lt.2
        have hst := Ho.out.set kk (-1) (by simp [hkm])
        have Hst := Lib.hid hst.2
        have Hz3 := Lib.hid (zero_any (n := m) (by simp) hst.1.at_ false (zeroB_set hkm).symm)
        clear hkk hst
        clear Hz
        cases q
        all_goals
          go_wp2_with fail
          refine Hzz.out.mono ?_
          rintro e w' ⟨rfl, rfl⟩
          clear Hzz
          go_wp2_with fail
          refine Hz1.out.mono ?_
          rintro e w' ⟨rfl, rfl⟩
          clear Hz1
          go_wp2_with fail
          refine Hz2.out.mono ?_
          rintro e w' ⟨rfl, rfl⟩
          clear Hz2
          go_wp2_with fail
          refine Hz3.out.mono ?_
          rintro e w' ⟨rfl, rfl⟩
          go_wp2
          go_ret
          exact ⟨rfl, Hb2.out.trans (Hst.out.below (fun i e => by omega) Hb2.out.size)⟩
      · have hm0i : ¬ (0 : Int) < (m : Int) := by omega
        clear Hz
        cases q
        all_goals
          go_wp2_with fail
          refine Hzz.out.mono ?_
          rintro e w' ⟨rfl, rfl⟩
          clear Hzz
          go_wp2_with fail
          refine Hz1.out.mono ?_
          rintro e w' ⟨rfl, rfl⟩
          clear Hz1
          go_wp2_with fail
          refine Hz2.out.mono ?_
          rintro e w' ⟨rfl, rfl⟩
          clear Hz2
          go_wp2
          go_ret
          exact ⟨rfl, Hb2.out⟩

theorem zeros_law {w : World} {al : Option Addr} {cl : Nat} {a : Int} {zs : List Int} (ua : (Lit.int .u8 a).wf = true) (hl : IntsAt w (.slice al zs.length cl) zs) :
    Calls Try.prog 5 #[.slice al zs.length cl, .int .u8 a] w fun e w' => e = .returned (.bool true) ∧ Below w.heap.size w w' := by
  have ha := bounds_u8 ua
  by_cases h : zs.length ≤ 20
  · exact zeros_small (m := (a % 9).toNat) ha (by omega) rfl hl h
  · exact zeros_big (RowAt.max hl) (by omega)
end Go.Proofs.Ytpbbdnicafifpaa
