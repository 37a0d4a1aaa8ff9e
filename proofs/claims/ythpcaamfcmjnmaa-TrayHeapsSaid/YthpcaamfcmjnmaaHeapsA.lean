/-
  A heap beside a list of keys of the call's own; calls on a nil Heap; an append as a step of a region that draws its order.
  Conditions: none beyond each theorem's own.
-/
import Derived.Test.YthpcaamfcmjnmaaQuiet
import Derived.Test.YthpcaamfcmjnmaaLless
import Derived.Test.YthpcaamfcmjnmaaOrdersA
import Derived.Maps.AppendAt
import Derived.Deep.RegionLaw
namespace Go.Proofs.Ythpcaamfcmjnmaa
open Go.RowKit

/-- a Heap that holds ks, and a slice v of the same keys in the order hs, which share nothing -/
structure HK (B : Nat) (w : World) (g : Nat) (hv : Value) (ks : List Key4) (v : Value) (hs : List Key4) : Prop where
  heap : HeapAt B w g hv ks
  own : w.ownsRow B 30 4 v hs.length (kcells hs)
  apart : ∀ k, hv.ownBlock = some k → v.ownBlock ≠ some k
  perm : ks.Perm hs

section
variable {B g : Nat} {w w' : World} {hv v : Value} {ks hs : List Key4}

theorem own_kept {S : Nat → Prop} (h : w.ownsRow B 30 4 v hs.length (kcells hs)) (hk : Kept S w w') (hn : ∀ r, v.ownBlock = some r → ¬ S r) : w'.ownsRow B 30 4 v hs.length (kcells hs) := by
  refine ⟨h.1, ?_⟩
  rcases h.2 with h0 | ⟨r, cap, cur, rfl, hBr, hb, rest⟩
  · exact .inl h0
  · exact .inr ⟨r, cap, cur, rfl, hBr, (hk.block r (Array.getElem?_eq_some_iff.1 hb).1 (hn r (by simp [Value.ownBlock]))).trans hb, rest⟩

theorem own_not_heap {r : Nat} (h : HeapAt B w g hv ks) (h2 : w.ownsRow B 30 4 v hs.length (kcells hs)) (hr : v.ownBlock = some r) : r ≠ g := by
  rintro rfl
  rcases h2.2 with ⟨rfl, _⟩ | ⟨r', cap, cur, rfl, _, hb, _⟩
  · simp [Value.ownBlock] at hr
  · have e : r' = r := by simpa [Value.ownBlock] using hr
    subst e
    have h1 := h.blk
    rw [hb] at h1
    injection h1 with h1
    injection h1 with _ h3
    revert h3
    decide

theorem HK.below (h : HK B w g hv ks v hs) (hb : Below w.heap.size w w') : HK B w' g hv ks v hs :=
  ⟨h.heap.below hb, own_kept (S := fun _ => False) h.own (Kept.of_below hb) (fun _ _ h => h), h.apart, h.perm⟩

/-- what a call changes of the heap leaves the list alone -/
theorem HK.list (h : HK B w g hv ks v hs) (hk : Kept (fun k => k = g ∨ hv.ownBlock = some k) w w') : w'.ownsRow B 30 4 v hs.length (kcells hs) := by
  refine own_kept h.own hk ?_
  intro r hr
  rintro (e | e)
  · exact own_not_heap h.heap h.own hr e
  · exact h.apart r e hr

theorem HK.form (h : HK B w g hv ks v hs) : ∃ a cap, v = .slice a hs.length cap := by
  rcases h.own.2 with ⟨rfl, h0⟩ | ⟨r, cap, cur, rfl, _⟩
  · exact ⟨none, 0, by rw [h0]⟩
  · exact ⟨_, cap, rfl⟩

theorem own_row (h : w.ownsRow B 30 4 v hs.length (kcells hs)) (hp : 0 < hs.length) : ∃ r cap, v = .slice (some ⟨r, 0, none⟩) hs.length cap ∧ KeyRow w r cap hs ∧ B ≤ r := by
  rcases h.2 with ⟨rfl, h0⟩ | ⟨r, cap, cur, rfl, hBr, hb, hl, hm, hs2, ht⟩
  · omega
  · exact ⟨r, cap, rfl, ⟨⟨cur, hb, hs2, ht⟩, hl, hm⟩, hBr⟩
end

theorem push_nil (x1 x2 x3 x4 : Int) (w : World) :
    Calls Try.prog 10 #[.pointer none, .agg #[.int .i64 x1, .int .i64 x2, .int .i64 x3, .int .i64 x4]] w fun e w' => e = .returned (.tuple #[]) ∧ Below w.heap.size w w' := by
  go_enter Try.func10, Try.ntmps10
  go_wp2
  refine bodyPost_ret (results_none rfl _ _ _) rfl ?_
  exact ⟨rfl, (Below.refl _ _).alloc (Nat.le_refl _) _⟩

theorem pop_nil (w : World) :
    Calls Try.prog 13 #[.pointer none] w fun e w' => e = .returned (.tuple #[zeroKey, .bool false]) ∧ Below w.heap.size w w' := by
  have hres0 := Lib.hid (heap_alloc_new w (.cells #[.int .i64 0, .int .i64 0, .int .i64 0, .int .i64 0] 30))
  go_enter Try.func13, Try.ntmps13
  go_wp2_with fail
  refine (top_nil _).mono ?_
  rintro e w1 ⟨rfl, hb1⟩
  have hw1 : w.heap.size < w1.heap.size := by have := hb1.size; simp at this; omega
  have hB1 : Below w.heap.size w w1 := ((Below.refl _ _).alloc (Nat.le_refl _) _).trans (hb1.mono (by simp))
  have hq2 : w1.heap[w.heap.size]? = some (.cells #[.int .i64 0, .int .i64 0, .int .i64 0, .int .i64 0] 30 (0, 0)) := (hb1.block _ (by simp)).trans hres0.out
  have b1 : w1.cell? ⟨w.heap.size, 0, none⟩ = some (.int .i64 0) := by rw [cell_of_row _ _ 0 _ _ (0, 0) hq2]; rfl
  have b2 : w1.cell? ⟨w.heap.size, 1, none⟩ = some (.int .i64 0) := by rw [cell_of_row _ _ 1 _ _ (0, 0) hq2]; rfl
  have b3 : w1.cell? ⟨w.heap.size, 2, none⟩ = some (.int .i64 0) := by rw [cell_of_row _ _ 2 _ _ (0, 0) hq2]; rfl
  have b4 : w1.cell? ⟨w.heap.size, 3, none⟩ = some (.int .i64 0) := by rw [cell_of_row _ _ 3 _ _ (0, 0) hq2]; rfl
  have e1 : w1.frozen? ⟨w.heap.size, 0, none⟩ = false := by simp [World.frozen?, hq2]
  have e2 : w1.frozen? ⟨w.heap.size, 1, none⟩ = false := by simp [World.frozen?, hq2]
  have e3 : w1.frozen? ⟨w.heap.size, 2, none⟩ = false := by simp [World.frozen?, hq2]
  have e4 : w1.frozen? ⟨w.heap.size, 3, none⟩ = false := by simp [World.frozen?, hq2]
  have HB1 := Lib.hid hB1
  clear hb1 hB1 hq2
  go_wp2
  refine bodyPost_ret (v := .tuple #[zeroKey, .bool false]) (by simp [results, Try.results13, go_sem, b1, b2, b3, b4, hw1]) rfl ⟨rfl, ?_⟩
  exact ((((HB1.out.setCell (p := ⟨w.heap.size, 0, none⟩) (Nat.le_refl _) _).setCell (p := ⟨w.heap.size, 1, none⟩) (Nat.le_refl _) _).setCell (p := ⟨w.heap.size, 2, none⟩) (Nat.le_refl _) _).setCell (p := ⟨w.heap.size, 3, none⟩) (Nat.le_refl _) _).alloc (by simp; omega) _

/-- append as one step of a region that draws: to a row of the call's own, from an address, none or more -/
theorem step_append_at {P : Program} {w : World} {ops : Array Oper} {o : Oper} {a : Act} {K : Act → World → Prop} {Q : Exit → Act → World → Prop} {E : Prop} (hgd : o.guard = none) (s x : Operand) (t : TypeId)
    (ho : o.op = .call { callee := .builtin .append, args := #[s, x], argTypes := #[t, t] })
    (base : Nat) (e : TypeId) (i : TypeInfo) (z : Value) (size bytes : Nat) (ht : P.underlying t = some (.slice e)) (hi : P.info? e = some i) (hz : i.zero = some z)
    (hsize : i.size = size) (hby : i.bytes = bytes) (hzs : z.cells.size = size) (hsz : 0 < size)
    (v : Value) (n : Nat) (xs : List Value) (hs : a.eval s = v) (hown : w.ownsRow base e size v n xs)
    (ad : Addr) (m c : Nat) (news : List Value) (hx : a.eval x = .slice (some ad) m c) (hl : news.length = m * size) (hnews : ∀ j u, news[j]? = some u → w.cell? (ad.add j) = some u) (h1 : ∀ u ∈ news, u.oneCell' = true)
    (h63 : n + m ≤ maxLen) (hbytes : (n + m) * bytes ≤ 140737488355328) (hbase : base ≤ w.heap.size)
    (h : ∀ v' w', w'.ownsRow base e size v' (n + m) (xs ++ news) → w.grownBy w' v.ownBlock → (v'.ownBlock = v.ownBlock ∨ v'.ownBlock = some w.heap.size) → K (a.put o.dst v') w') :
    if Region.wanted o (yielded ops a.tmps) = true then Oper.wp P o a w K Q else E := by
  have hw : Region.wanted o (yielded ops a.tmps) = true := by simp [Region.wanted, hgd]
  rw [if_pos hw]
  obtain ⟨v', w', hr, h2, h3, _, h5⟩ := run_append_own_at (P := P) w base t o.type e i z size bytes ht hi hz hsize hby hzs hsz v n xs hown ad m c news hl hnews h1 h63 hbytes hbase
  unfold Oper.wp execOp
  simp only [ho, resolve, invoke, builtin, Sem.run_bind, Sem.run_pure, Result.andThen_ok, List.map_toArray, List.map_cons, List.map_nil, hs, hx, hr]
  exact h v' w' h2 h3 h5

/-- the list without the key at a place -/
def without (hs : List Key4) (b : Nat) : List Key4 := hs.take b ++ hs.drop (b + 1)

theorem without_perm (hs : List Key4) (b : Nat) (hb : b < hs.length) : (at4 hs b :: without hs b).Perm hs := by
  have e : hs = hs.take b ++ (at4 hs b :: hs.drop (b + 1)) := by
    have h1 := List.take_append_drop b hs
    rw [List.drop_eq_getElem_cons hb] at h1
    have : at4 hs b = hs[b] := by simp [at4, hb]
    rw [this]
    exact h1.symm
  unfold without
  conv => rhs; rw [e]
  exact List.perm_middle.symm

theorem kcells_app (a b : List Key4) : kcells (a ++ b) = kcells a ++ kcells b := by simp [kcells]

theorem kcells_one (ks : List Key4) : ∀ u ∈ kcells ks, u.oneCell' = true := by
  intro u hu
  simp only [kcells, List.mem_flatMap] at hu
  obtain ⟨k, _, hk⟩ := hu
  simp [kc] at hk
  rcases hk with rfl | rfl | rfl | rfl <;> simp [Value.oneCell']

/-- a stretch of a row of keys, as an append reads it -/
theorem row_stretch {w : World} {r cap : Nat} {hs xs : List Key4} (h : KeyRow w r cap hs) (o : Nat) (hx : ∀ i, i < xs.length → o + i < hs.length ∧ at4 hs (o + i) = at4 xs i) :
    ∀ j u, (kcells xs)[j]? = some u → w.cell? ((⟨r, o * 4, none⟩ : Addr).add j) = some u := by
  intro j u hj
  have hjl : j < (kcells xs).length := (List.getElem?_eq_some_iff.1 hj).1
  rw [kcells_len] at hjl
  obtain ⟨i, k, hk, rfl⟩ : ∃ i k, k < 4 ∧ j = i * 4 + k := ⟨j / 4, j % 4, Nat.mod_lt _ (by omega), by omega⟩
  have hi : i < xs.length := by omega
  rw [kcells_at xs i k hi hk, ← (hx i hi).2, ← h.cells (o + i) k (hx i hi).1 hk] at hj
  have ea : (⟨r, o * 4, none⟩ : Addr).add (i * 4 + k) = ⟨r, (o + i) * 4 + k, none⟩ := by
    have e2 : o * 4 + (i * 4 + k) = (o + i) * 4 + k := by omega
    simp only [Addr.add, e2]
    split
    · rename_i h0
      have : o * 4 = (o + i) * 4 + k := by omega
      rw [this]
    · rfl
  rw [ea]
  exact hj

end Go.Proofs.Ythpcaamfcmjnmaa
