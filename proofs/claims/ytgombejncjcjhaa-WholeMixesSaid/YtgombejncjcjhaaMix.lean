/-
  What Mix of package whole comes to: a new row of a times x plus b times y, element by element; or (nil, false) where an element is no int or is the smallest int.
  Conditions: a, b and each element are ints; both lists are equally long.
-/
import Derived.Test.YtgombejncjcjhaaSame
import Derived.Deep.RegionHeld3
import Derived.BigRegion
namespace Go.Proofs.Ytgombejncjcjhaa
open Go.RowKit
set_option linter.unusedVariables false

theorem Reads.take {w : World} {a : Option Addr} {zs : List Int} (h : Reads w a zs) (n : Nat) : Reads w a (zs.take n) := by
  rcases h with rfl | ⟨b, off, ha, hb, hc⟩
  · left; simp
  · right
    refine ⟨b, off, ha, hb, fun i hi => ?_⟩
    rw [List.length_take] at hi
    rw [hc i (by omega)]
    simp [show i < n by omega]

/-- an element of the mix; none: it is no int, or the smallest one -/
def mixAt (a b x y : Int) : Option Int :=
  match dots 0 [a, b] [x, y] with
  | some s => if s = -9223372036854775808 then none else some s
  | none => none

theorem mixAt_some {a b x y c : Int} (h : mixAt a b x y = some c) : dots 0 [a, b] [x, y] = some c ∧ c ≠ -9223372036854775808 := by
  unfold mixAt at h
  split at h
  · rename_i s hs
    split at h
    · cases h
    · rename_i hne
      injection h with h
      subst h
      exact ⟨hs, hne⟩
  · cases h

theorem mixAt_none {a b x y : Int} (h : mixAt a b x y = none) : dots 0 [a, b] [x, y] = none ∨ dots 0 [a, b] [x, y] = some (-9223372036854775808) := by
  unfold mixAt at h
  split at h
  · rename_i s hs
    split at h
    · rename_i he
      right; rw [hs, he]
    · cases h
  · rename_i hs
    exact .inl hs

/-- what Mix leaves: a row with all elements; or nothing, because one of them cannot be -/
def MixPost (B : Nat) (w : World) (a b : Int) (xs ys : List Int) (e : Ending) (w' : World) : Prop :=
  Below B w w' ∧
  ((∃ cs g, cs.length = xs.length ∧ (∀ j, j < xs.length → mixAt a b (xs.getD j 0) (ys.getD j 0) = some (cs.getD j 0)) ∧ e = .returned (.tuple #[.slice (some ⟨g, 0, none⟩) xs.length xs.length, .bool true]) ∧ Row w' g cs) ∨
   ((∃ j, j < xs.length ∧ mixAt a b (xs.getD j 0) (ys.getD j 0) = none) ∧ e = .returned (.tuple #[.slice none 0 0, .bool false])))

theorem pair_row (w : World) (x y : Int) : Row (w.alloc (.cells #[.int .i64 x, .int .i64 y] 3)) w.heap.size [x, y] := heap_alloc_new w _

theorem pair_dot (w : World) (A B : Nat) (a b x y : Int) (h1 : Row w A [a, b]) (h2 : Row w B [x, y]) (ha : I64 a) (hb : I64 b) (hx : I64 x) (hy : I64 y) :
    Calls Try.prog 23 #[.slice (some ⟨A, 0, none⟩) 2 2, .slice (some ⟨B, 0, none⟩) 2 2] w fun e w' => e = .returned (dotV (dots 0 [a, b] [x, y])) ∧ ∃ n, w' = w.drewN n :=
  dot_any _ _ 2 2 [a, b] [x, y] w h1.reads h2.reads (by intro z hz; simp at hz; rcases hz with rfl | rfl <;> assumption) (by intro z hz; simp at hz; rcases hz with rfl | rfl <;> assumption) (by simp) (by simp)

theorem pair_rdot (w : World) (A B : Nat) (a b x y : Int) (h1 : Row w A [a, b]) (h2 : Row w B [x, y]) (ha : I64 a) (hb : I64 b) (hx : I64 x) (hy : I64 y) :
    Calls Try.prog 24 #[.slice (some ⟨A, 0, none⟩) 2 2, .slice (some ⟨B, 0, none⟩) 2 2] w fun e w' => e = .returned (dotV (dots 0 [a, b] [x, y])) ∧ ∃ n, w' = w.drewN n :=
  rdot_any _ _ 2 2 [a, b] [x, y] w h1.reads h2.reads (by intro z hz; simp at hz; rcases hz with rfl | rfl <;> assumption) (by intro z hz; simp at hz; rcases hz with rfl | rfl <;> assumption) (by simp) (by simp)

theorem made_row {w w1 : World} {m n : Nat} (hown : w1.ownsRow w.heap.size 3 1 (.slice (some ⟨w.heap.size, 0, none⟩) n n) n (madeCells (Value.int .i64 0).cells (n * 1)).toList) (hgrow : (w.drewN m).grownBy w1 none) :
    Below w.heap.size w w1 ∧ Row w1 w.heap.size (List.replicate n 0) := by
  refine ⟨(below_drewN (Below.refl _ _) m).grown hgrow (Nat.le_refl _) (fun _ h => by cases h), ?_⟩
  have h := own_block hown
  rw [show (Value.int .i64 0).cells = #[Value.int .i64 0] from rfl, toList_madeCells_one, Nat.mul_one] at h
  unfold Row
  rw [h, List.map_replicate]

/-- the first elements are there, the others are 0 still -/
theorem fill_step (cs : List Int) (n : Nat) (x : Int) (h : cs.length < n) : (cs ++ List.replicate (n - cs.length) 0).set cs.length x = (cs ++ [x]) ++ List.replicate (n - (cs.length + 1)) 0 := by
  rw [List.set_append, if_neg (by omega), Nat.sub_self]
  have e : n - cs.length = (n - (cs.length + 1)) + 1 := by omega
  rw [e, List.replicate_succ, List.set_cons_zero, List.append_assoc]
  rfl

theorem Reads.cellIn {w w' : World} {b off k : Nat} {zs : List Int} (hb : b < w.heap.size) (hc : w.cell? ⟨b, off + k, none⟩ = some (.int .i64 (zs.getD k 0))) (h : Below w.heap.size w w') : w'.cell? ⟨b, off + k, none⟩ = some (.int .i64 (zs.getD k 0)) :=
  (h.cell (p := ⟨b, off + k, none⟩) hb).trans hc

def pairCells (x y : Int) : Obj := .cells #[.int .i64 x, .int .i64 y] 3

theorem pairs_rows (w : World) (a b x y : Int) :
    Row ((w.alloc (.cells #[.int .i64 a, .int .i64 b] 3)).alloc (.cells #[.int .i64 x, .int .i64 y] 3)) w.heap.size [a, b] ∧
    Row ((w.alloc (.cells #[.int .i64 a, .int .i64 b] 3)).alloc (.cells #[.int .i64 x, .int .i64 y] 3)) (w.heap.size + 1) [x, y] := by
  refine ⟨(pair_row w a b).alloc _, ?_⟩
  have h := pair_row (w.alloc (.cells #[.int .i64 a, .int .i64 b] 3)) x y
  simpa using h

theorem pairs_below (w : World) (o1 o2 : Obj) (n : Nat) : Below w.heap.size w (((w.alloc o1).alloc o2).drew.drewN n) :=
  below_drewN (((Below.refl _ _).alloc (Nat.le_refl _) _).alloc (by simp) _).drew n

section
variable (w : World) (a b x y : Int) (ha : I64 a) (hb : I64 b) (hx : I64 x) (hy : I64 y) (r : Option Int) (hr : dots 0 [a, b] [x, y] = r)
include ha hb hx hy hr

theorem dot1 : Calls Try.prog 23 #[.slice (some ⟨w.heap.size, 0, none⟩) 2 2, .slice (some ⟨w.heap.size + 1, 0, none⟩) 2 2]
    ((w.alloc (.cells #[.int .i64 a, .int .i64 b] 3)).alloc (.cells #[.int .i64 x, .int .i64 y] 3)).drew fun e w' => e = .returned (dotV r) ∧ Below w.heap.size w w' := by
  subst hr
  refine (pair_dot _ _ _ a b x y (pairs_rows w a b x y).1.drew (pairs_rows w a b x y).2.drew ha hb hx hy).mono ?_
  rintro e w' ⟨rfl, n, rfl⟩
  exact ⟨rfl, pairs_below w _ _ n⟩

theorem dot2 : Calls Try.prog 23 #[.slice (some ⟨w.heap.size + 1, 0, none⟩) 2 2, .slice (some ⟨w.heap.size, 0, none⟩) 2 2]
    ((w.alloc (.cells #[.int .i64 x, .int .i64 y] 3)).alloc (.cells #[.int .i64 a, .int .i64 b] 3)).drew fun e w' => e = .returned (dotV r) ∧ Below w.heap.size w w' := by
  subst hr
  refine (pair_dot _ _ _ a b x y (pairs_rows w x y a b).2.drew (pairs_rows w x y a b).1.drew ha hb hx hy).mono ?_
  rintro e w' ⟨rfl, n, rfl⟩
  exact ⟨rfl, pairs_below w _ _ n⟩

theorem rdot1 : Calls Try.prog 24 #[.slice (some ⟨w.heap.size, 0, none⟩) 2 2, .slice (some ⟨w.heap.size + 1, 0, none⟩) 2 2]
    ((w.alloc (.cells #[.int .i64 a, .int .i64 b] 3)).alloc (.cells #[.int .i64 x, .int .i64 y] 3)).drew fun e w' => e = .returned (dotV r) ∧ Below w.heap.size w w' := by
  subst hr
  refine (pair_rdot _ _ _ a b x y (pairs_rows w a b x y).1.drew (pairs_rows w a b x y).2.drew ha hb hx hy).mono ?_
  rintro e w' ⟨rfl, n, rfl⟩
  exact ⟨rfl, pairs_below w _ _ n⟩

theorem rdot2 : Calls Try.prog 24 #[.slice (some ⟨w.heap.size + 1, 0, none⟩) 2 2, .slice (some ⟨w.heap.size, 0, none⟩) 2 2]
    ((w.alloc (.cells #[.int .i64 x, .int .i64 y] 3)).alloc (.cells #[.int .i64 a, .int .i64 b] 3)).drew fun e w' => e = .returned (dotV r) ∧ Below w.heap.size w w' := by
  subst hr
  refine (pair_rdot _ _ _ a b x y (pairs_rows w x y a b).2.drew (pairs_rows w x y a b).1.drew ha hb hx hy).mono ?_
  rintro e w' ⟨rfl, n, rfl⟩
  exact ⟨rfl, pairs_below w _ _ n⟩

end

set_option maxHeartbeats 4000000 in
theorem mix_any (a b : Int) (p q : Option Addr) (cp cq : Nat) (xs ys : List Int) (w : World) (hp : Reads w p xs) (hq : Reads w q ys) (hxs : Ints xs) (hys : Ints ys) (ha : I64 a) (hb : I64 b) (hl : ys.length = xs.length) (hm : xs.length ≤ 1000000) :
    Calls Try.prog 27 #[.int .i64 a, .slice p xs.length cp, .int .i64 b, .slice q xs.length cq] w (MixPost w.heap.size w a b xs ys) := by
  obtain ⟨i0, hi, hz0, hz1, hz2⟩ := info_parts Try.info3
  have Hz2 := Lib.hid hz2
  have Hp := Lib.hid hp
  have Hq := Lib.hid hq
  have Hxs := Lib.hid hxs
  have Hys := Lib.hid hys
  have Hl := Lib.hid hl
  have Ha := Lib.hid ha
  have Hb := Lib.hid hb
  clear hz2 hp hq hxs hys ha hb hl
  obtain ⟨n, hn⟩ : ∃ n, n = xs.length := ⟨_, rfl⟩
  rw [← hn] at hm ⊢
  have Hn := Lib.hid hn
  clear hn
  go_enter Try.func27, Try.ntmps27
  go_wp2_with (at_make; refine wpList_make_full _ rfl _ _ 30 rfl w.heap.size 3 i0 (.int .i64 0) 1 Try.underlying30 hi hz0 hz1 .i64 .i64 _ _ n rfl rfl rfl rfl (by rw [Hz2.out]; omega) (by unfold maxLen; omega) (by exact Nat.le_refl _) ?_; intro w1 hown1 hgrow1; have hmr := made_row (m := 0) hown1 hgrow1; clear hown1 hgrow1)
  have Hmr := Lib.hid hmr
  clear hmr
  go_loopw [22] (fun i wr => ∃ cs : List Int, cs.length ≤ n ∧ i = .int .i64 cs.length ∧ Hid (∀ j, j < cs.length → mixAt a b (xs.getD j 0) (ys.getD j 0) = some (cs.getD j 0)) ∧ Row wr w.heap.size (cs ++ List.replicate (n - cs.length) 0) ∧ Below w.heap.size w wr)
    (fun i _ => n - (intOf i).toNat)
  case atStart => exact ⟨[], Nat.zero_le _, rfl, Lib.hid (fun j hj => by simp at hj), Hmr.out.2, Hmr.out.1⟩
  case round =>
    obtain ⟨cs, hcs, rfl, hgood, hrow, hbel⟩ := hrel
    have Hrow := Lib.hid hrow
    have Hbel := Lib.hid hbel
    clear hrow hbel
    by_cases hlt : cs.length < n
    · have hkx : cs.length < xs.length := by have := Hn.out; omega
      have hky : cs.length < ys.length := by rw [Hl.out]; exact hkx
      obtain ⟨b1, o1, hA1, hb1, hc1⟩ := Hp.out.place cs.length hkx
      obtain ⟨b2, o2, hA2, hb2, hc2⟩ := Hq.out.place cs.length hky
      subst hA1 hA2
      have hc1 := Reads.cellIn hb1 hc1 Hbel.out
      have hc2 := Reads.cellIn hb2 hc2 Hbel.out
      have hX := Lib.hid (Hxs.out.get cs.length hkx)
      have hY := Lib.hid (Hys.out.get cs.length hky)
      obtain ⟨x, hx⟩ : ∃ x, x = xs.getD cs.length 0 := ⟨_, rfl⟩
      obtain ⟨y, hy⟩ : ∃ y, y = ys.getD cs.length 0 := ⟨_, rfl⟩
      rw [← hx] at hc1 hX
      rw [← hy] at hc2 hY
      have Hx := Lib.hid hx
      have Hy := Lib.hid hy
      have hsz := Hbel.out.size
      have hw1 : b1 < wr.heap.size := by omega
      have hw2 : b2 < wr.heap.size := by omega
      clear hx hy hkx hky hsz hb1 hb2
      obtain ⟨k, hk⟩ : ∃ k, k = cs.length := ⟨_, rfl⟩
      rw [← hk] at hcs hlt hc1 hc2 ⊢
      have Hk := Lib.hid hk
      clear hk
      obtain ⟨r, hr⟩ : ∃ r, dots 0 [a, b] [x, y] = r := ⟨_, rfl⟩
      have D1 := Lib.hid (dot1 wr a b x y Ha.out Hb.out hX.out hY.out r hr)
      have D2 := Lib.hid (dot2 wr a b x y Ha.out Hb.out hX.out hY.out r hr)
      have Hr := Lib.hid hr
      clear hr
      cases r with
      | none =>
        have Hmx : Hid (mixAt a b (xs.getD k 0) (ys.getD k 0) = none) := Lib.hid (by rw [Hk.out, ← Hx.out, ← Hy.out]; unfold mixAt; rw [Hr.out])
        simp only [dotV] at D1 D2
        go_wp2
        go_region_held3 (fun w' => w'.cell? ⟨b1, o1 + k, none⟩ = some (.int .i64 x) ∧ w'.cell? ⟨b2, o2 + k, none⟩ = some (.int .i64 y))
          (first
            | exact ⟨k1, k2⟩
            | go_keep)
          (first
            | (go_at_call 23; ((with_reducible refine D1.out.mono ?_); rintro e w' ⟨rfl, hbw⟩; have k1 := (hbw.cell (p := ⟨b1, o1 + k, none⟩) hw1).trans hc1; have k2 := (hbw.cell (p := ⟨b2, o2 + k, none⟩) hw2).trans hc2))
            | (go_at_call 23; ((with_reducible refine D2.out.mono ?_); rintro e w' ⟨rfl, hbw⟩; have k1 := (hbw.cell (p := ⟨b1, o1 + k, none⟩) hw1).trans hc1; have k2 := (hbw.cell (p := ⟨b2, o2 + k, none⟩) hw2).trans hc2)))
        all_goals
          have HF := Lib.hid (Hbel.out.trans (hbw.mono Hbel.out.size))
          clear hbw k1 k2
          go_wp2
          go_ret2
          exact ⟨HF.out, .inr ⟨⟨k, by have := Hn.out; omega, Hmx.out⟩, rfl⟩⟩
      | some s =>
        by_cases hs : s = -9223372036854775808
        · have Hmx : Hid (mixAt a b (xs.getD k 0) (ys.getD k 0) = none) := Lib.hid (by rw [Hk.out, ← Hx.out, ← Hy.out]; unfold mixAt; rw [Hr.out, hs]; rfl)
          subst hs
          simp only [dotV] at D1 D2
          go_wp2
          go_region_held3 (fun w' => w'.cell? ⟨b1, o1 + k, none⟩ = some (.int .i64 x) ∧ w'.cell? ⟨b2, o2 + k, none⟩ = some (.int .i64 y))
            (first
              | exact ⟨k1, k2⟩
              | go_keep)
            (first
              | (go_at_call 23; ((with_reducible refine D1.out.mono ?_); rintro e w' ⟨rfl, hbw⟩; have k1 := (hbw.cell (p := ⟨b1, o1 + k, none⟩) hw1).trans hc1; have k2 := (hbw.cell (p := ⟨b2, o2 + k, none⟩) hw2).trans hc2))
              | (go_at_call 23; ((with_reducible refine D2.out.mono ?_); rintro e w' ⟨rfl, hbw⟩; have k1 := (hbw.cell (p := ⟨b1, o1 + k, none⟩) hw1).trans hc1; have k2 := (hbw.cell (p := ⟨b2, o2 + k, none⟩) hw2).trans hc2)))
          all_goals
            have HF := Lib.hid (Hbel.out.trans (hbw.mono Hbel.out.size))
            clear hbw k1 k2
            go_wp2
            go_ret2
            exact ⟨HF.out, .inr ⟨⟨k, by have := Hn.out; omega, Hmx.out⟩, rfl⟩⟩
        · have Hmx : Hid (mixAt a b (xs.getD k 0) (ys.getD k 0) = some s) := Lib.hid (by rw [Hk.out, ← Hx.out, ← Hy.out]; unfold mixAt; rw [Hr.out]; simp [hs])
          have hsb : (s == -9223372036854775808) = false := by rw [beq_eq_false_iff_ne]; exact hs
          clear hs
          simp only [dotV] at D1 D2
          go_wp2
          go_region_held3 (fun w' => w'.cell? ⟨b1, o1 + k, none⟩ = some (.int .i64 x) ∧ w'.cell? ⟨b2, o2 + k, none⟩ = some (.int .i64 y))
            (first
              | exact ⟨k1, k2⟩
              | go_keep)
            (first
              | (go_at_call 23; ((with_reducible refine D1.out.mono ?_); rintro e w' ⟨rfl, hbw⟩; have k1 := (hbw.cell (p := ⟨b1, o1 + k, none⟩) hw1).trans hc1; have k2 := (hbw.cell (p := ⟨b2, o2 + k, none⟩) hw2).trans hc2))
              | (go_at_call 23; ((with_reducible refine D2.out.mono ?_); rintro e w' ⟨rfl, hbw⟩; have k1 := (hbw.cell (p := ⟨b1, o1 + k, none⟩) hw1).trans hc1; have k2 := (hbw.cell (p := ⟨b2, o2 + k, none⟩) hw2).trans hc2)))
          all_goals
            have HF := Lib.hid (Hbel.out.trans (hbw.mono Hbel.out.size))
            have hrw : Row w' w.heap.size (cs ++ List.replicate (n - cs.length) 0) := Hrow.out.below hbw Hrow.out.lt
            have hcell := hrw.cell k (by rw [List.length_append, List.length_replicate, ← Hk.out]; omega)
            have hfz := hrw.notFrozen k
            have hput := hrw.put k s
            rw [Hk.out, fill_step cs n s (by rw [← Hk.out]; exact hlt), ← Hk.out] at hput
            generalize (cs ++ List.replicate (n - cs.length) 0).getD k 0 = old at hcell
            have Hput := Lib.hid hput
            clear hbw k1 k2 hput hrw
            go_wp2
            go_roundw
            case rel =>
              refine ⟨cs ++ [s], by rw [List.length_append, ← Hk.out]; simp; omega, by rw [List.length_append, ← Hk.out]; go_num, Lib.hid ?_, ?_, HF.out.setCell (Nat.le_refl _) _⟩
              · intro j hj
                rw [List.length_append, ← Hk.out] at hj
                by_cases hjk : j < k
                · have := hgood.out j (by rw [← Hk.out]; exact hjk)
                  rw [this]
                  simp [List.getElem?_append, show j < cs.length by rw [← Hk.out]; exact hjk]
                · obtain rfl : j = k := by simp at hj; omega
                  rw [Hmx.out]
                  simp [Hk.out]
              · rw [List.length_append, ← Hk.out]; exact Hput.out
            case measure => simp [intOf]; omega
    · obtain hk : cs.length = n := by omega
      have Hfin : Hid (Row wr w.heap.size cs) := Lib.hid (by have := Hrow.out; rw [hk] at this; simpa using this)
      have Hk := Lib.hid hk
      clear hk
      go_wp2
      go_ret2
      refine ⟨Hbel.out, .inl ⟨cs, w.heap.size, by rw [Hk.out, Hn.out], ?_, by rw [← Hn.out]; rfl, Hfin.out⟩⟩
      intro j hj
      exact hgood.out j (by rw [Hk.out, Hn.out]; exact hj)

end Go.Proofs.Ytgombejncjcjhaa
