/-
  What Dot of package whole and the document's own Dot come to: the sum of the products as far as both lists go, or (0, false) where a product or a sum on the way is no int.
  Conditions: each element is an int.
-/
import Derived.Test.YtgombejncjcjhaaMulc
import Derived.Test.YtgombejncjcjhaaMem
namespace Go.Proofs.Ytgombejncjcjhaa
open Go.RowKit
set_option linter.unusedVariables false

instance (a : Int) : Decidable (I64 a) := by unfold I64; exact inferInstance

/-- the sum of the products from s on; none: something on the way is no int -/
def dots : Int → List Int → List Int → Option Int
  | s, x :: xs, y :: ys => if I64 (x * y) then if I64 (s + x * y) then dots (s + x * y) xs ys else none else none
  | s, _, _ => some s

def dotV : Option Int → Value
  | some s => .tuple #[.int .i64 s, .bool true]
  | none => .tuple #[.int .i64 0, .bool false]

def Ints (zs : List Int) : Prop := ∀ x ∈ zs, I64 x

theorem Ints.get {zs : List Int} (h : Ints zs) (k : Nat) (hk : k < zs.length) : I64 (zs.getD k 0) := by
  have : zs.getD k 0 = zs[k] := by simp [hk]
  rw [this]; exact h _ (List.getElem_mem hk)

theorem drop_at (zs : List Int) (k : Nat) (hk : k < zs.length) : zs.drop k = zs.getD k 0 :: zs.drop (k + 1) := by
  rw [List.drop_eq_getElem_cons hk]; simp [hk]

theorem dots_at (s : Int) (xs ys : List Int) (k : Nat) (hx : k < xs.length) (hy : k < ys.length) :
    dots s (xs.drop k) (ys.drop k) = if I64 (xs.getD k 0 * ys.getD k 0) then if I64 (s + xs.getD k 0 * ys.getD k 0) then dots (s + xs.getD k 0 * ys.getD k 0) (xs.drop (k + 1)) (ys.drop (k + 1)) else none else none := by
  rw [drop_at xs k hx, drop_at ys k hy]; rfl

theorem dots_end (s : Int) (xs ys : List Int) (k : Nat) (h : xs.length ≤ k ∨ ys.length ≤ k) : dots s (xs.drop k) (ys.drop k) = some s := by
  rcases h with h | h
  · rw [List.drop_of_length_le h]; rfl
  · rw [List.drop_of_length_le h]; cases xs.drop k <;> rfl

theorem Reads.at_ {w : World} {a : Option Addr} {zs : List Int} (h : Reads w a zs) (k : Nat) (hk : k < zs.length) : ∃ b off, a = some ⟨b, off, none⟩ ∧ w.cell? ⟨b, off + k, none⟩ = some (.int .i64 (zs.getD k 0)) := by
  rcases h with rfl | ⟨b, off, ha, _, hc⟩
  · simp at hk
  · exact ⟨b, off, ha, hc k hk⟩

theorem Reads.drewN {w : World} {a : Option Addr} {zs : List Int} (h : Reads w a zs) (n : Nat) : Reads (w.drewN n) a zs := h

theorem quiet_left {P : Program} {f : FuncId} {args : Array Value} {w : World} {n : Nat} {v : Value}
    (h : Calls P f args (w.drewN n) fun e w' => e = .returned v ∧ w.drewN n = w') : Calls P f args (w.drewN n) fun e w'' => e = .returned v ∧ ∃ m, w'' = w.drewN m :=
  h.mono fun _ _ h => ⟨h.1, n, h.2.symm⟩

set_option maxHeartbeats 800000 in
theorem dot_any (a b : Option Addr) (ca cb : Nat) (xs ys : List Int) (w : World) (ha : Reads w a xs) (hb : Reads w b ys) (hxs : Ints xs) (hys : Ints ys) (hlx : xs.length ≤ 1000000) (hly : ys.length ≤ 1000000) :
    Calls Try.prog 23 #[.slice a xs.length ca, .slice b ys.length cb] w fun e w' => e = .returned (dotV (dots 0 xs ys)) ∧ ∃ n, w' = w.drewN n := by
  have Ha := Lib.hid ha
  have Hb := Lib.hid hb
  have Hx := Lib.hid hxs
  have Hy := Lib.hid hys
  clear ha hb hxs hys
  obtain ⟨n, hn⟩ : ∃ n, n = xs.length := ⟨_, rfl⟩
  obtain ⟨m, hm⟩ : ∃ m, m = ys.length := ⟨_, rfl⟩
  rw [← hn] at hlx ⊢
  rw [← hm] at hly ⊢
  have Hn := Lib.hid hn
  have Hm := Lib.hid hm
  clear hn hm
  go_enter Try.func23, Try.ntmps23
  go_wp2
  all_goals
    go_loopw [6, 15] (fun t i wr => ∃ k : Nat, ∃ s : Int, k ≤ n ∧ k ≤ m ∧ i = .int .i64 k ∧ t = .int .i64 s ∧ -9223372036854775808 ≤ s ∧ s ≤ 9223372036854775807 ∧ Hid (dots s (xs.drop k) (ys.drop k) = dots 0 xs ys) ∧ Hid (∃ j, wr = w.drewN j))
      (fun _ i _ => n - (intOf i).toNat)
    case atStart => exact ⟨0, 0, Nat.zero_le _, Nat.zero_le _, rfl, rfl, by omega, by omega, Lib.hid rfl, Lib.hid ⟨0, rfl⟩⟩
    case round =>
      obtain ⟨k, s, hkn, hkm, rfl, rfl, hs1, hs2, hd, hw⟩ := hrel
      have hra : Reads wr a xs := by obtain ⟨j, hj⟩ := hw.out; rw [hj]; exact Ha.out.drewN j
      have hrb : Reads wr b ys := by obtain ⟨j, hj⟩ := hw.out; rw [hj]; exact Hb.out.drewN j
      by_cases hlt : k < n ∧ k < m
      · obtain ⟨hltn, hltm⟩ := hlt
        have hkx : k < xs.length := by have := Hn.out; omega
        have hky : k < ys.length := by have := Hm.out; omega
        obtain ⟨b1, o1, rfl, hc1⟩ := hra.at_ k hkx
        obtain ⟨b2, o2, rfl, hc2⟩ := hrb.at_ k hky
        have hX := Hx.out.get k hkx
        have hY := Hy.out.get k hky
        have hst := dots_at s xs ys k hkx hky
        rw [hd.out] at hst
        obtain ⟨x, hx⟩ : ∃ x, x = xs.getD k 0 := ⟨_, rfl⟩
        obtain ⟨y, hy⟩ : ∃ y, y = ys.getD k 0 := ⟨_, rfl⟩
        rw [← hx] at hc1 hX hst
        rw [← hy] at hc2 hY hst
        clear hx hy hkx hky hd hra hrb
        have HX := Lib.hid hX
        have HY := Lib.hid hY
        have HS : Hid (I64 s) := Lib.hid ⟨hs1, hs2⟩
        clear hX hY
        by_cases hp : I64 (x * y)
        · rw [if_pos hp] at hst
          by_cases hq : I64 (s + x * y)
          · rw [if_pos hq] at hst
            have HST := Lib.hid hst
            have HP := Lib.hid hp
            have HQ := Lib.hid hq
            clear hst hp hq
            go_wp2
            go_quiet ((go_at_call 18; exact quiet_left (mul_ok x y _ HX.out HY.out HP.out)))
            go_wp2_with fail
            refine (add_ok _ _ _ HS.out HP.out HQ.out).mono ?_
            rintro e w' ⟨rfl, rfl⟩
            go_wp2
            go_roundw
            case rel => exact ⟨k + 1, s + x * y, by omega, by omega, by go_num, rfl, HQ.out.1, HQ.out.2, Lib.hid HST.out.symm, Lib.hid (by obtain ⟨j, hj⟩ := hw.out; exact drewN_of w _ _ j _ hj rfl)⟩
            case measure => simp [intOf]; omega
          · rw [if_neg hq] at hst
            have HST := Lib.hid hst
            have HP := Lib.hid hp
            have HQ := Lib.hid hq
            clear hst hp hq
            go_wp2
            go_quiet ((go_at_call 18; exact quiet_left (mul_ok x y _ HX.out HY.out HP.out)))
            go_wp2_with fail
            refine (add_no _ _ _ HS.out HP.out HQ.out).mono ?_
            rintro e w' ⟨rfl, rfl⟩
            go_wp2
            go_ret2
            rw [HST.out]
            exact ⟨rfl, by obtain ⟨j, hj⟩ := hw.out; exact drewN_of w _ _ j _ hj rfl⟩
        · rw [if_neg hp] at hst
          have HST := Lib.hid hst
          have HP := Lib.hid hp
          clear hst hp
          go_wp2
          go_quiet ((go_at_call 18; exact quiet_left (mul_no x y _ HX.out HY.out HP.out)))
          go_wp2
          go_ret2
          rw [HST.out]
          exact ⟨rfl, by obtain ⟨j, hj⟩ := hw.out; exact drewN_of w _ _ j _ hj rfl⟩
      · have hfin := dots_end s xs ys k (by have := Hn.out; have := Hm.out; omega)
        rw [hd.out] at hfin
        have HF := Lib.hid hfin
        clear hfin hd hra hrb
        go_wp2
        all_goals
          go_ret2
          rw [HF.out]
          exact ⟨rfl, hw.out⟩

set_option maxHeartbeats 800000 in
theorem rdot_any (a b : Option Addr) (ca cb : Nat) (xs ys : List Int) (w : World) (ha : Reads w a xs) (hb : Reads w b ys) (hxs : Ints xs) (hys : Ints ys) (hlx : xs.length ≤ 1000000) (hly : ys.length ≤ 1000000) :
    Calls Try.prog 24 #[.slice a xs.length ca, .slice b ys.length cb] w fun e w' => e = .returned (dotV (dots 0 xs ys)) ∧ ∃ n, w' = w.drewN n := by
  have Ha := Lib.hid ha
  have Hb := Lib.hid hb
  have Hx := Lib.hid hxs
  have Hy := Lib.hid hys
  clear ha hb hxs hys
  obtain ⟨n, hn⟩ : ∃ n, n = xs.length := ⟨_, rfl⟩
  obtain ⟨m, hm⟩ : ∃ m, m = ys.length := ⟨_, rfl⟩
  rw [← hn] at hlx ⊢
  rw [← hm] at hly ⊢
  have Hn := Lib.hid hn
  have Hm := Lib.hid hm
  clear hn hm
  go_enter Try.func24, Try.ntmps24
  go_wp2
  all_goals
    go_loopw [6, 7] (fun t i wr => ∃ k : Nat, ∃ s : Int, k ≤ n ∧ k ≤ m ∧ i = .int .i64 k ∧ t = .int .i64 s ∧ -9223372036854775808 ≤ s ∧ s ≤ 9223372036854775807 ∧ Hid (dots s (xs.drop k) (ys.drop k) = dots 0 xs ys) ∧ Hid (∃ j, wr = w.drewN j))
      (fun _ i _ => n - (intOf i).toNat)
    case atStart => exact ⟨0, 0, Nat.zero_le _, Nat.zero_le _, rfl, rfl, by omega, by omega, Lib.hid rfl, Lib.hid ⟨0, rfl⟩⟩
    case round =>
      obtain ⟨k, s, hkn, hkm, rfl, rfl, hs1, hs2, hd, hw⟩ := hrel
      have hra : Reads wr a xs := by obtain ⟨j, hj⟩ := hw.out; rw [hj]; exact Ha.out.drewN j
      have hrb : Reads wr b ys := by obtain ⟨j, hj⟩ := hw.out; rw [hj]; exact Hb.out.drewN j
      by_cases hlt : k < n ∧ k < m
      · obtain ⟨hltn, hltm⟩ := hlt
        have hkx : k < xs.length := by have := Hn.out; omega
        have hky : k < ys.length := by have := Hm.out; omega
        obtain ⟨b1, o1, rfl, hc1⟩ := hra.at_ k hkx
        obtain ⟨b2, o2, rfl, hc2⟩ := hrb.at_ k hky
        have hX := Hx.out.get k hkx
        have hY := Hy.out.get k hky
        have hst := dots_at s xs ys k hkx hky
        rw [hd.out] at hst
        obtain ⟨x, hx⟩ : ∃ x, x = xs.getD k 0 := ⟨_, rfl⟩
        obtain ⟨y, hy⟩ : ∃ y, y = ys.getD k 0 := ⟨_, rfl⟩
        rw [← hx] at hc1 hX hst
        rw [← hy] at hc2 hY hst
        clear hx hy hkx hky hd hra hrb
        have HX := Lib.hid hX
        have HY := Lib.hid hY
        have HS : Hid (I64 s) := Lib.hid ⟨hs1, hs2⟩
        clear hX hY
        by_cases hp : I64 (x * y)
        · rw [if_pos hp] at hst
          by_cases hq : I64 (s + x * y)
          · rw [if_pos hq] at hst
            have HST := Lib.hid hst
            have HP := Lib.hid hp
            have HQ := Lib.hid hq
            clear hst hp hq
            go_wp2
            go_quiet ((go_at_call 19; exact quiet_left (rmul_ok x y _ HX.out HY.out HP.out)))
            go_wp2_with fail
            refine (radd_ok _ _ _ HS.out HP.out HQ.out).mono ?_
            rintro e w' ⟨rfl, rfl⟩
            go_wp2
            go_roundw
            case rel => exact ⟨k + 1, s + x * y, by omega, by omega, by go_num, rfl, HQ.out.1, HQ.out.2, Lib.hid HST.out.symm, Lib.hid (by obtain ⟨j, hj⟩ := hw.out; exact drewN_of w _ _ j _ hj rfl)⟩
            case measure => simp [intOf]; omega
          · rw [if_neg hq] at hst
            have HST := Lib.hid hst
            have HP := Lib.hid hp
            have HQ := Lib.hid hq
            clear hst hp hq
            go_wp2
            go_quiet ((go_at_call 19; exact quiet_left (rmul_ok x y _ HX.out HY.out HP.out)))
            go_wp2_with fail
            refine (radd_no _ _ _ HS.out HP.out HQ.out).mono ?_
            rintro e w' ⟨rfl, rfl⟩
            go_wp2
            go_ret2
            rw [HST.out]
            exact ⟨rfl, by obtain ⟨j, hj⟩ := hw.out; exact drewN_of w _ _ j _ hj rfl⟩
        · rw [if_neg hp] at hst
          have HST := Lib.hid hst
          have HP := Lib.hid hp
          clear hst hp
          go_wp2
          go_quiet ((go_at_call 19; exact quiet_left (rmul_no x y _ HX.out HY.out HP.out)))
          go_wp2
          go_ret2
          rw [HST.out]
          exact ⟨rfl, by obtain ⟨j, hj⟩ := hw.out; exact drewN_of w _ _ j _ hj rfl⟩
      · have hfin := dots_end s xs ys k (by have := Hn.out; have := Hm.out; omega)
        rw [hd.out] at hfin
        have HF := Lib.hid hfin
        clear hfin hd hra hrb
        go_wp2
        all_goals
          go_ret2
          rw [HF.out]
          exact ⟨rfl, hw.out⟩

end Go.Proofs.Ytgombejncjcjhaa
