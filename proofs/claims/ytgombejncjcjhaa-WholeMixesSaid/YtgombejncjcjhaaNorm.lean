/-
  What Norm of package whole comes to: a new row of the vector's ints, each divided by the greatest number that divides them all.
  Conditions: each element is an int above the smallest one.
-/
import Derived.Test.YtgombejncjcjhaaMem
namespace Go.Proofs.Ytgombejncjcjhaa
open Go.RowKit

/-- the greatest number that divides all; 0 for noughts alone -/
def gcdl (zs : List Int) : Nat := zs.foldl (fun g x => Int.gcd g x) 0

theorem gcdl_snoc (zs : List Int) (x : Int) : gcdl (zs ++ [x]) = Int.gcd (gcdl zs) x := by simp [gcdl]

theorem take_snoc (zs : List Int) (k : Nat) (h : k < zs.length) : zs.take (k + 1) = zs.take k ++ [zs.getD k 0] := by
  rw [List.take_succ_eq_append_getElem h]; simp [h]

def Small (zs : List Int) : Prop := ∀ x ∈ zs, -9223372036854775807 ≤ x ∧ x ≤ 9223372036854775807

theorem gcd_le (a : Nat) (x : Int) (ha : a ≤ 9223372036854775807) (hx : -9223372036854775807 ≤ x ∧ x ≤ 9223372036854775807) : Int.gcd a x ≤ 9223372036854775807 := by
  by_cases h : x = 0
  · subst h; simp [Int.gcd]; omega
  · have := Int.gcd_le_natAbs_right (a : Int) h
    omega

theorem gcdl_le (zs : List Int) (h : Small zs) : gcdl zs ≤ 9223372036854775807 := by
  suffices H : ∀ (l : List Int) (a : Nat), a ≤ 9223372036854775807 → Small l → l.foldl (fun g x => Int.gcd g x) a ≤ 9223372036854775807 from H zs 0 (by omega) h
  intro l
  induction l with
  | nil => intro a ha _; exact ha
  | cons x l ih =>
    intro a ha hs
    exact ih _ (gcd_le a x ha (hs x (by simp))) (fun y hy => hs y (by simp [hy]))

theorem Small.take {zs : List Int} (h : Small zs) (k : Nat) : Small (zs.take k) := fun x hx => h x (List.mem_of_mem_take hx)

theorem Small.get {zs : List Int} (h : Small zs) (k : Nat) : -9223372036854775807 ≤ zs.getD k 0 ∧ zs.getD k 0 ≤ 9223372036854775807 := by
  by_cases hk : k < zs.length
  · have : zs.getD k 0 = zs[k] := by simp [hk]
    rw [this]; exact h _ (List.getElem_mem hk)
  · have : zs.getD k 0 = 0 := by simp [List.getElem?_eq_none (Nat.le_of_not_lt hk)]
    rw [this]; omega

theorem Try.info3 : (Try.prog.info? 3).map (fun i => (i.zero, i.size, i.bytes)) = some (some (.int .i64 0), 1, 8) := by kernel_rfl

def norml (zs : List Int) : List Int := if 1 < gcdl zs then zs.map (fun x => x.tdiv (gcdl zs)) else zs

theorem own_block {w : World} {base g n : Nat} {xs : List Value} (h : w.ownsRow base 3 1 (.slice (some ⟨g, 0, none⟩) n n) n xs) : w.heap[g]? = some (.cells xs.toArray 3 (0, 0)) := by
  rcases h.2 with ⟨h', _⟩ | ⟨g', cap', cur, h', _, hg, _, _, hs, ht⟩
  · simp at h'
  · simp only [Value.slice.injEq, Option.some.injEq, Addr.mk.injEq, and_true, true_and] at h'
    obtain ⟨rfl, rfl⟩ := h'
    rw [hg, ← ht, List.take_of_length_le (by rw [Array.length_toList, hs]; exact Nat.le_refl _)]

theorem splice_all {α : Type} (Z X : List α) (h : Z.length = X.length) : splice Z 0 X = X := by
  simp [splice, h]

/-- the first k are divided already -/
def halfway (zs : List Int) (d : Int) (k : Nat) : List Int := (zs.take k).map (fun x => x.tdiv d) ++ zs.drop k

theorem halfway_len (zs : List Int) (d : Int) (k : Nat) : (halfway zs d k).length = zs.length := by simp [halfway]; omega

theorem halfway_get (zs : List Int) (d : Int) (k : Nat) (h : k < zs.length) : (halfway zs d k).getD k 0 = zs.getD k 0 := by
  simp [halfway, List.getElem?_append, Nat.min_eq_left (Nat.le_of_lt h)]

theorem halfway_step (zs : List Int) (d : Int) (k : Nat) (h : k < zs.length) : (halfway zs d k).set k ((zs.getD k 0).tdiv d) = halfway zs d (k + 1) := by
  unfold halfway
  rw [take_snoc zs k h, List.map_append, List.set_append]
  have h1 : ¬ k < (List.map (fun x => x.tdiv d) (List.take k zs)).length := by simp; omega
  rw [if_neg h1]
  have h2 : k - (List.map (fun x => x.tdiv d) (List.take k zs)).length = 0 := by simp; omega
  rw [h2, List.drop_eq_getElem_cons h, List.set_cons_zero, List.append_assoc]
  rfl

theorem halfway_end (zs : List Int) (d : Int) : halfway zs d zs.length = zs.map (fun x => x.tdiv d) := by simp [halfway]

theorem Try.size3 : (Try.prog.info? 3).map (·.size) = some 1 := by kernel_rfl

theorem made_facts {w w1 : World} {m n : Nat} (hown : w1.ownsRow w.heap.size 3 1 (.slice (some ⟨w.heap.size, 0, none⟩) n n) n (madeCells (Value.int .i64 0).cells (n * 1)).toList) (hgrow : (w.drewN m).grownBy w1 none) :
    Below w.heap.size w w1 ∧ ∃ Z : List Value, Hid (w1.heap[w.heap.size]? = some (.cells Z.toArray 3 (0, 0))) ∧ Hid (Z.length = n) :=
  ⟨(below_drewN (Below.refl _ _) m).grown hgrow (Nat.le_refl _) (fun _ h => by cases h), _, Lib.hid (own_block hown), Lib.hid (by rw [hown.1]; omega)⟩

theorem src_facts {w w1 : World} {b off : Nat} {zs : List Int} {Xs : List Value} (hX : Xs = zs.map (Value.int .i64)) (hc : ∀ i, i < zs.length → w.cell? ⟨b, off + i, none⟩ = some (.int .i64 (zs.getD i 0))) (hb : b < w.heap.size) (hb1 : Below w.heap.size w w1) :
    ∀ j v, Xs[j]? = some v → w1.cell? ((⟨b, off, none⟩ : Addr).add j) = some v := by
  subst hX
  intro j v hj
  have hj' : j < zs.length := by
    obtain ⟨h, _⟩ := List.getElem?_eq_some_iff.1 hj; simpa using h
  have hc := hc j hj'
  have : (⟨b, off, none⟩ : Addr).add j = ⟨b, off + j, none⟩ := by simp [Addr.add]
  rw [this, hb1.cell (by exact hb), hc, ← hj]
  simp [hj']

theorem one_cells {zs : List Int} {Xs : List Value} (hX : Xs = zs.map (Value.int .i64)) : ∀ v ∈ Xs, v.oneCell' = true := by
  subst hX
  intro v hv
  obtain ⟨x, _, rfl⟩ := List.mem_map.1 hv
  simp [Value.oneCell']

theorem row_of_splice {w : World} {g : Nat} {zs : List Int} {Z Xs : List Value} (hX : Xs = zs.map (Value.int .i64)) (hZ : Z.length = Xs.length) (h : w.heap[g]? = some (.cells (splice Z 0 Xs).toArray 3 (0, 0))) : Row w g zs := by
  rw [splice_all _ _ hZ, hX] at h
  exact h

set_option maxHeartbeats 400000 in
theorem norm_some (b off cap : Nat) (zs : List Int) (w : World) (hb : b < w.heap.size) (hc : ∀ i, i < zs.length → w.cell? ⟨b, off + i, none⟩ = some (.int .i64 (zs.getD i 0)))
    (hs : Small zs) (hm : zs.length ≤ 1000000) :
    Calls Try.prog 25 #[.slice (some ⟨b, off, none⟩) zs.length cap] w fun e w' => e = .returned (.slice (some ⟨w.heap.size, 0, none⟩) zs.length zs.length) ∧ Row w' w.heap.size (norml zs) ∧ Below w.heap.size w w' := by
  obtain ⟨i0, hi, hz0, hz1, hz2⟩ := info_parts Try.info3
  have Hz2 := Lib.hid hz2
  clear hz2
  have Hc := Lib.hid hc
  have Hs := Lib.hid hs
  clear hc hs
  obtain ⟨n, hn⟩ : ∃ n, n = zs.length := ⟨_, rfl⟩
  rw [← hn] at hm ⊢
  have Hn := Lib.hid hn
  clear hn
  obtain ⟨Xs, hX⟩ : ∃ Xs, Xs = zs.map (Value.int .i64) := ⟨_, rfl⟩
  have HX := Lib.hid hX
  clear hX
  have hXl : Hid (Xs.length = n) := Lib.hid (by rw [HX.out, Hn.out]; simp)
  go_enter Try.func25, Try.ntmps25
  go_wp2
  go_loopw [3, 10] (fun d i wr => ∃ k : Nat, k ≤ n ∧ i = .int .i64 k ∧ d = .int .i64 (gcdl (zs.take k)) ∧ Hid (∃ m, wr = w.drewN m))
    (fun _ i _ => n - (intOf i).toNat)
  case atStart => exact ⟨0, Nat.zero_le _, rfl, rfl, Lib.hid ⟨0, rfl⟩⟩
  case round =>
    obtain ⟨k, hk, rfl, rfl, hw⟩ := hrel
    obtain ⟨m, rfl⟩ := hw.out
    clear hw
    by_cases hlt : k < n
    · have hcell : (w.drewN m).cell? ⟨b, off + k, none⟩ = some (.int .i64 (zs.getD k 0)) := Hc.out k (by have := Hn.out; omega)
      obtain ⟨x, hx⟩ : ∃ x, x = zs.getD k 0 := ⟨_, rfl⟩
      obtain ⟨hx1, hx2⟩ := Hs.out.get k
      rw [← hx] at hcell hx1 hx2
      have Hx := Lib.hid hx
      clear hx
      have hg := gcdl_le _ (Hs.out.take k)
      go_wp2_with fail
      refine (gcd_any _ _ _ (by omega) (by omega)).mono ?_
      rintro e w' ⟨rfl, m', rfl⟩
      have hstep : Hid (gcdl (zs.take (k + 1)) = Int.gcd (gcdl (zs.take k)) x) := Lib.hid (by rw [take_snoc zs k (by have := Hn.out; omega), gcdl_snoc, Hx.out])
      go_wp2
      go_roundw
      case rel => exact ⟨k + 1, by omega, by go_num, by rw [hstep.out], Lib.hid ⟨m + m', by simp [World.drewN]⟩⟩
      case measure => simp [intOf]; omega
    · obtain rfl : k = n := by omega
      have hall : zs.take k = zs := List.take_of_length_le (by have := Hn.out; omega)
      rw [hall]
      clear hall
      have hgl := gcdl_le _ Hs.out
      obtain ⟨d, hd⟩ : ∃ d, d = gcdl zs := ⟨_, rfl⟩
      rw [← hd] at hgl ⊢
      have Hd := Lib.hid hd
      clear hd
      by_cases hd1 : 1 < d
      · go_wp2_with (first
          | (at_make; refine wpList_make_full _ rfl _ _ 30 rfl w.heap.size 3 i0 (.int .i64 0) 1 Try.underlying30 hi hz0 hz1 .i64 .i64 _ _ k rfl rfl rfl rfl (by rw [Hz2.out]; omega) (by unfold maxLen; omega) (by exact Nat.le_refl _) ?_; intro w1 hown1 hgrow1; obtain ⟨hb1, Z, hblk, hZ⟩ := made_facts hown1 hgrow1; clear hown1 hgrow1)
          | (with_reducible show wpList _ _ _ (⟨some 23, _, _, _, _, _⟩ :: _) _ _; refine wpList_copy_splice (o := ⟨some 23, _, _, _, _, _⟩) rfl (.tmp 21) (.tmp 22) 30 30 rfl 3 Try.underlying30 Try.size3 _ _ _ _ _ _ rfl rfl w.heap.size 0 Z 3 hblk.out Xs (by rw [hXl.out]; exact (Nat.min_self k).symm) (fun _ => ⟨rfl, _, rfl, src_facts HX.out Hc.out hb hb1⟩) (by rw [hXl.out, hZ.out]; omega) (one_cells HX.out) w.heap.size w hb1 (Nat.le_refl _) ?_; intro w2 hrow2 hbel2; have hR2 := row_of_splice HX.out (by rw [hZ.out, hXl.out]) hrow2.out; clear hrow2))
        go_loopw [28] (fun i wr => ∃ j : Nat, j ≤ k ∧ i = .int .i64 j ∧ Row wr w.heap.size (halfway zs d j) ∧ Below w.heap.size w wr)
          (fun i _ => k - (intOf i).toNat)
        case atStart => exact ⟨0, Nat.zero_le _, rfl, by simpa [halfway] using hR2, hbel2⟩
        case round =>
          obtain ⟨j, hj, rfl, hR, hbj⟩ := hrel
          by_cases hjk : j < k
          · have hjz : j < zs.length := by have := Hn.out; omega
            have hcell := hR.cell j (by rw [halfway_len]; exact hjz)
            have hfz := hR.notFrozen j
            rw [halfway_get _ _ _ hjz] at hcell
            obtain ⟨hx1, hx2⟩ := Hs.out.get j
            obtain ⟨x, hx⟩ : ∃ x, x = zs.getD j 0 := ⟨_, rfl⟩
            rw [← hx] at hcell hx1 hx2
            have hput := hR.put j (x.tdiv d)
            rw [hx, halfway_step zs d j hjz, ← hx] at hput
            have Hx := Lib.hid hx
            clear hx hR hjz
            have hb' := hbj.setCell (p := ⟨w.heap.size, j, none⟩) (Nat.le_refl _) (.int .i64 (x.tdiv d))
            go_wp2
            go_roundw
            case rel => exact ⟨j + 1, by omega, by go_num, hput, hb'⟩
            case measure => simp [intOf]; omega
          · obtain rfl : j = k := by omega
            have hfin : Row wr w.heap.size (norml zs) := by
              have e : halfway zs d j = norml zs := by
                rw [show j = zs.length from Hn.out, halfway_end, Hd.out, norml, if_pos (by rw [← Hd.out]; exact hd1)]
              rw [← e]; exact hR
            clear hR
            go_wp2
            go_ret
            exact ⟨rfl, hfin, hbj⟩
      · go_wp2_with (first
          | (at_make; refine wpList_make_full _ rfl _ _ 30 rfl w.heap.size 3 i0 (.int .i64 0) 1 Try.underlying30 hi hz0 hz1 .i64 .i64 _ _ k rfl rfl rfl rfl (by rw [Hz2.out]; omega) (by unfold maxLen; omega) (by exact Nat.le_refl _) ?_; intro w1 hown1 hgrow1; obtain ⟨hb1, Z, hblk, hZ⟩ := made_facts hown1 hgrow1; clear hown1 hgrow1)
          | (with_reducible show wpList _ _ _ (⟨some 23, _, _, _, _, _⟩ :: _) _ _; refine wpList_copy_splice (o := ⟨some 23, _, _, _, _, _⟩) rfl (.tmp 21) (.tmp 22) 30 30 rfl 3 Try.underlying30 Try.size3 _ _ _ _ _ _ rfl rfl w.heap.size 0 Z 3 hblk.out Xs (by rw [hXl.out]; exact (Nat.min_self k).symm) (fun _ => ⟨rfl, _, rfl, src_facts HX.out Hc.out hb hb1⟩) (by rw [hXl.out, hZ.out]; omega) (one_cells HX.out) w.heap.size w hb1 (Nat.le_refl _) ?_; intro w2 hrow2 hbel2; have hR2 := row_of_splice HX.out (by rw [hZ.out, hXl.out]) hrow2.out; clear hrow2))
        go_ret
        refine ⟨rfl, ?_, hbel2⟩
        rw [norml, if_neg (by rw [← Hd.out]; exact hd1)]
        exact hR2

set_option maxHeartbeats 400000 in
theorem norm_none (a : Option Addr) (cap : Nat) (w : World) :
    Calls Try.prog 25 #[.slice a 0 cap] w fun e w' => e = .returned (.slice (some ⟨w.heap.size, 0, none⟩) 0 0) ∧ Row w' w.heap.size [] ∧ Below w.heap.size w w' := by
  obtain ⟨i0, hi, hz0, hz1, hz2⟩ := info_parts Try.info3
  have Hz2 := Lib.hid hz2
  clear hz2
  go_enter Try.func25, Try.ntmps25
  go_wp2
  go_loopw [3, 10] (fun d i wr => i = .int .i64 0 ∧ d = .int .i64 0 ∧ w = wr)
    (fun _ _ _ => 0)
  case atStart => exact ⟨rfl, rfl, rfl⟩
  case round =>
    obtain ⟨rfl, rfl, rfl⟩ := hrel
    go_wp2_with (first
          | (at_make; refine wpList_make_full _ rfl _ _ 30 rfl w.heap.size 3 i0 (.int .i64 0) 1 Try.underlying30 hi hz0 hz1 .i64 .i64 _ _ 0 rfl rfl rfl rfl (by rw [Hz2.out]; omega) (by unfold maxLen; omega) (by exact Nat.le_refl _) ?_; intro w1 hown1 hgrow1; obtain ⟨hb1, Z, hblk, hZ⟩ := made_facts (m := 0) hown1 hgrow1; clear hown1 hgrow1)
          | (with_reducible show wpList _ _ _ (⟨some 23, _, _, _, _, _⟩ :: _) _ _; refine wpList_copy_splice (o := ⟨some 23, _, _, _, _, _⟩) rfl (.tmp 21) (.tmp 22) 30 30 rfl 3 Try.underlying30 Try.size3 _ _ _ _ _ _ rfl rfl w.heap.size 0 Z 3 hblk.out [] rfl (fun h => absurd h (by simp)) (by simp) (by simp) w.heap.size w hb1 (Nat.le_refl _) ?_; intro w2 hrow2 hbel2; have hR2 : Row w2 w.heap.size [] := row_of_splice (zs := []) rfl hZ.out hrow2.out; clear hrow2))
    go_ret
    exact ⟨rfl, hR2, hbel2⟩

theorem norm_any (a : Option Addr) (cap : Nat) (zs : List Int) (w : World) (hr : Reads w a zs) (hs : Small zs) (hm : zs.length ≤ 1000000) :
    Calls Try.prog 25 #[.slice a zs.length cap] w fun e w' => e = .returned (.slice (some ⟨w.heap.size, 0, none⟩) zs.length zs.length) ∧ Row w' w.heap.size (norml zs) ∧ Below w.heap.size w w' := by
  rcases hr with rfl | ⟨b, off, rfl, hb, hc⟩
  · exact norm_none a cap w
  · exact norm_some b off cap zs w hb hc hs hm

end Go.Proofs.Ytgombejncjcjhaa
