/-
  The parser's lists of arcs.
  Conditions: none beyond each theorem's own.
-/
import Derived.Test.YtfiielibnnodkaaPArc
import Derived.Deep.RegionHeld3
import Derived.Deep.RegionWith
import Derived.Deep.AppendLies
namespace Go.Proofs.Ytfiielibnnodkaa
open Go.RowKit
set_option linter.unusedVariables false

/-- a transition under way: its box, its lists; the boxes of the two pointers that the closures hold -/
def trRows (T br bq R : Nat) (cs : List Value) (r1 r2 r3 : Row) : List Row :=
  [boxRow T 40 cs, r1, r2, r3, boxRow br 105 [.pointer (some ⟨R, 0, none⟩)], boxRow bq 131 [.pointer (some ⟨T, 0, none⟩)]]
def trCells (nm : ByteArray) (d p : Int) (v1 v2 v3 : Value) : List Value := [.string nm, .int .i64 d, .int .i64 p, v1, v2, v3]

theorem trRows_box (more : List Row) (T br bq R : Nat) (cs : List Value) (r1 r2 r3 : Row) : more ++ trRows T br bq R cs r1 r2 r3 = more ++ boxRow T 40 cs :: [r1, r2, r3, boxRow br 105 [.pointer (some ⟨R, 0, none⟩)], boxRow bq 131 [.pointer (some ⟨T, 0, none⟩)]] := rfl
theorem trRows_1 (more : List Row) (T br bq R : Nat) (cs : List Value) (r1 r2 r3 : Row) : more ++ trRows T br bq R cs r1 r2 r3 = (more ++ [boxRow T 40 cs]) ++ r1 :: [r2, r3, boxRow br 105 [.pointer (some ⟨R, 0, none⟩)], boxRow bq 131 [.pointer (some ⟨T, 0, none⟩)]] := by simp [trRows]
theorem trRows_2 (more : List Row) (T br bq R : Nat) (cs : List Value) (r1 r2 r3 : Row) : more ++ trRows T br bq R cs r1 r2 r3 = (more ++ [boxRow T 40 cs, r1]) ++ r2 :: [r3, boxRow br 105 [.pointer (some ⟨R, 0, none⟩)], boxRow bq 131 [.pointer (some ⟨T, 0, none⟩)]] := by simp [trRows]
theorem trRows_3 (more : List Row) (T br bq R : Nat) (cs : List Value) (r1 r2 r3 : Row) : more ++ trRows T br bq R cs r1 r2 r3 = (more ++ [boxRow T 40 cs, r1, r2]) ++ r3 :: [boxRow br 105 [.pointer (some ⟨R, 0, none⟩)], boxRow bq 131 [.pointer (some ⟨T, 0, none⟩)]] := by simp [trRows]

/-- short enough -/
structure LS.ok (x : LS) : Prop where
  a1 : x.inn.length ≤ 8
  a2 : x.nt.length ≤ 8
  a3 : x.out.length ≤ 8

def LSt (w0 : World) (R M : Nat) (vp vt : Value) (ps : List Pl) (l : List (Tr × Value × Value × Value)) (more : List Row) (T br bq : Nat) (nm : ByteArray) (d p : Int) (x : LS) (w : World) : Prop :=
  x.ok ∧ Good x.ts ∧ ∃ v1 v2 v3, St w0 w R (.map (some M)) vp vt x.ts ps l (more ++ trRows T br bq R (trCells nm d p v1 v2 v3) (arcRow v1 x.inn) (arcRow v2 x.nt) (arcRow v3 x.out))

theorem arcG_len {ns : List (List UInt8)} {l : List (Int × Int)} {ts : List Tok} (h : l.length ≤ 8) : (arcG ns l ts).1.length ≤ 8 := by
  unfold arcG
  split
  · simp
  · split
    · simp
    · split
      · simp
      · split
        · simp
        · simp; omega

section
variable {w0 w w' : World} {R T br bq M : Nat} {vp vt v v1 v2 v3 : Value} {ts : List Tok} {ps : List Pl} {l : List (Tr × Value × Value × Value)} {more : List Row} {ns : List (List UInt8)} {nm : ByteArray} {d p : Int} {x : LS} {l1 l2 l3 : List (Int × Int)}

/-- the closures' cells -/
structure TrC (w : World) (R T br bq : Nat) (v1 v2 v3 : Value) : Prop where
  cr : w.cell? ⟨br, 0, none⟩ = some (.pointer (some ⟨R, 0, none⟩))
  cq : w.cell? ⟨bq, 0, none⟩ = some (.pointer (some ⟨T, 0, none⟩))
  t3 : w.cell? ⟨T, 3, none⟩ = some v1
  t4 : w.cell? ⟨T, 4, none⟩ = some v2
  t5 : w.cell? ⟨T, 5, none⟩ = some v3
  fz : ∀ j, w.frozen? ⟨T, j, none⟩ = false
  lr : br < w.heap.size
  lq : bq < w.heap.size
  lt : T < w.heap.size

theorem St.trC {vm : Value} {r1 r2 r3 : Row} (h : St w0 w R vm vp vt ts ps l (more ++ trRows T br bq R (trCells nm d p v1 v2 v3) r1 r2 r3)) : TrC w R T br bq v1 v2 v3 := by
  have h1 := h.mem (r := boxRow T 40 [.string nm, .int .i64 d, .int .i64 p, v1, v2, v3]) (by simp [trRows, trCells])
  have h2 := h.mem (r := boxRow br 105 [.pointer (some ⟨R, 0, none⟩)]) (by simp [trRows])
  have h3 := h.mem (r := boxRow bq 131 [.pointer (some ⟨T, 0, none⟩)]) (by simp [trRows])
  exact ⟨boxRow.cell h2 rfl, boxRow.cell h3 rfl, boxRow.cell h1 rfl, boxRow.cell h1 rfl, boxRow.cell h1 rfl, boxRow.froz h1, (boxRow.lt h2).2, (boxRow.lt h3).2, (boxRow.lt h1).2⟩

/-- an arc of each list: what the call needs, at a draw -/
theorem arc_1 (hM : SMap w0 M ns) {cs : List Value} {r1 r2 r3 : Row} {la : List (Int × Int)} (h : St w0 w R (.map (some M)) vp vt ts ps l (more ++ trRows T br bq R cs (arcRow v la) r2 r3)) (hg : Good ts) (hla : la.length ≤ 8) :
    Calls Try.prog 100 #[.pointer (some ⟨R, 0, none⟩), v] w fun e w' => ∃ v', e = .returned (.tuple #[v', .int .i64 (arcG ns la ts).2.1]) ∧ St w0 w' R (.map (some M)) vp vt (arcG ns la ts).2.2 ps l (more ++ trRows T br bq R cs (arcRow v' (arcG ns la ts).1) r2 r3) := by
  rw [trRows_1] at h
  refine (arc_reader hM h hg hla).mono ?_
  rintro e w' ⟨v', h1, h2⟩
  exact ⟨v', h1, by rw [trRows_1]; exact h2⟩
theorem arc_2 (hM : SMap w0 M ns) {cs : List Value} {r1 r2 r3 : Row} {la : List (Int × Int)} (h : St w0 w R (.map (some M)) vp vt ts ps l (more ++ trRows T br bq R cs r1 (arcRow v la) r3)) (hg : Good ts) (hla : la.length ≤ 8) :
    Calls Try.prog 100 #[.pointer (some ⟨R, 0, none⟩), v] w fun e w' => ∃ v', e = .returned (.tuple #[v', .int .i64 (arcG ns la ts).2.1]) ∧ St w0 w' R (.map (some M)) vp vt (arcG ns la ts).2.2 ps l (more ++ trRows T br bq R cs r1 (arcRow v' (arcG ns la ts).1) r3) := by
  rw [trRows_2] at h
  refine (arc_reader hM h hg hla).mono ?_
  rintro e w' ⟨v', h1, h2⟩
  exact ⟨v', h1, by rw [trRows_2]; exact h2⟩
theorem arc_3 (hM : SMap w0 M ns) {cs : List Value} {r1 r2 r3 : Row} {la : List (Int × Int)} (h : St w0 w R (.map (some M)) vp vt ts ps l (more ++ trRows T br bq R cs r1 r2 (arcRow v la))) (hg : Good ts) (hla : la.length ≤ 8) :
    Calls Try.prog 100 #[.pointer (some ⟨R, 0, none⟩), v] w fun e w' => ∃ v', e = .returned (.tuple #[v', .int .i64 (arcG ns la ts).2.1]) ∧ St w0 w' R (.map (some M)) vp vt (arcG ns la ts).2.2 ps l (more ++ trRows T br bq R cs r1 r2 (arcRow v' (arcG ns la ts).1)) := by
  rw [trRows_3] at h
  refine (arc_reader hM h hg hla).mono ?_
  rintro e w' ⟨v', h1, h2⟩
  exact ⟨v', h1, by rw [trRows_3]; exact h2⟩

/-- a cell of a box beside is stored -/
theorem St.setBox {pre post : List Row} {vm : Value} {b : Nat} {t : TypeId} {cs : List Value} (h : St w0 w R vm vp vt ts ps l (pre ++ boxRow b t cs :: post)) (j : Nat) (u : Value) :
    St w0 (w.setCell ⟨b, j, none⟩ u) R vm vp vt ts ps l (pre ++ boxRow b t (cs.set j u) :: post) := by
  obtain ⟨vk, h1, h2, h3⟩ := h
  have e : ∀ r : Row, boxRow R 77 [vk, vm, vp, vt] :: (netRows vp vt ps l ++ (pre ++ r :: post)) = (boxRow R 77 [vk, vm, vp, vt] :: (netRows vp vt ps l ++ pre)) ++ r :: post := fun r => by simp
  have hr0 := h2.own (boxRow b t cs) (by simp)
  rw [e] at h2
  obtain ⟨k1, k2⟩ := AllOwn.store h2 j u
  exact ⟨vk, h1, by rw [e]; exact k1, h3.trans (k2.below (fun k hk => by have := (boxRow.lt hr0).1; omega) h3.size)⟩

/-- what is there behind an arc, and behind the store of its list into the transition -/
structure ArcOut (w0 w' : World) (R T bq M : Nat) (vp vt : Value) (ts : List Tok) (ps : List Pl) (l : List (Tr × Value × Value × Value)) (j : Nat) (v u : Value) (rows : List Row) : Prop where
  cq : w'.cell? ⟨bq, 0, none⟩ = some (.pointer (some ⟨T, 0, none⟩))
  ct : w'.cell? ⟨T, j, none⟩ = some v
  fz : w'.frozen? ⟨T, j, none⟩ = false
  st : Hid (St w0 (w'.setCell ⟨T, j, none⟩ u) R (.map (some M)) vp vt ts ps l rows)

theorem arcs_1 (hM : SMap w0 M ns) {r1 r2 r3 : Row} {la : List (Int × Int)} (h : St w0 w R (.map (some M)) vp vt ts ps l (more ++ trRows T br bq R (trCells nm d p v1 v2 v3) (arcRow v1 la) r2 r3)) (hg : Good ts) (hla : la.length ≤ 8) :
    Calls Try.prog 100 #[.pointer (some ⟨R, 0, none⟩), v1] w fun e w' => ∃ a n c, e = .returned (.tuple #[.slice a n c, .int .i64 (arcG ns la ts).2.1]) ∧ ArcOut w0 w' R T bq M vp vt (arcG ns la ts).2.2 ps l 3 v1 (.slice a n c) (more ++ trRows T br bq R (trCells nm d p (.slice a n c) v2 v3) (arcRow (.slice a n c) (arcG ns la ts).1) r2 r3) := by
  refine (arc_1 (r1 := r1) hM h hg hla).mono ?_
  rintro e w' ⟨v', h1, h2⟩
  obtain ⟨a, n, c, e5⟩ := own_form3 (h2.mem (r := arcRow v' (arcG ns la ts).1) (by simp [trRows]))
  have e5 : v' = .slice a n c := e5
  subst e5
  have hC := h2.trC
  rw [trRows_box] at h2
  exact ⟨a, n, c, h1, hC.cq, hC.t3, hC.fz 3, Lib.hid (h2.setBox 3 (.slice a n c))⟩
theorem arcs_2 (hM : SMap w0 M ns) {r1 r2 r3 : Row} {la : List (Int × Int)} (h : St w0 w R (.map (some M)) vp vt ts ps l (more ++ trRows T br bq R (trCells nm d p v1 v2 v3) r1 (arcRow v2 la) r3)) (hg : Good ts) (hla : la.length ≤ 8) :
    Calls Try.prog 100 #[.pointer (some ⟨R, 0, none⟩), v2] w fun e w' => ∃ a n c, e = .returned (.tuple #[.slice a n c, .int .i64 (arcG ns la ts).2.1]) ∧ ArcOut w0 w' R T bq M vp vt (arcG ns la ts).2.2 ps l 4 v2 (.slice a n c) (more ++ trRows T br bq R (trCells nm d p v1 (.slice a n c) v3) r1 (arcRow (.slice a n c) (arcG ns la ts).1) r3) := by
  refine (arc_2 (r2 := r2) hM h hg hla).mono ?_
  rintro e w' ⟨v', h1, h2⟩
  obtain ⟨a, n, c, e5⟩ := own_form3 (h2.mem (r := arcRow v' (arcG ns la ts).1) (by simp [trRows]))
  have e5 : v' = .slice a n c := e5
  subst e5
  have hC := h2.trC
  rw [trRows_box] at h2
  exact ⟨a, n, c, h1, hC.cq, hC.t4, hC.fz 4, Lib.hid (h2.setBox 4 (.slice a n c))⟩
theorem arcs_3 (hM : SMap w0 M ns) {r1 r2 r3 : Row} {la : List (Int × Int)} (h : St w0 w R (.map (some M)) vp vt ts ps l (more ++ trRows T br bq R (trCells nm d p v1 v2 v3) r1 r2 (arcRow v3 la))) (hg : Good ts) (hla : la.length ≤ 8) :
    Calls Try.prog 100 #[.pointer (some ⟨R, 0, none⟩), v3] w fun e w' => ∃ a n c, e = .returned (.tuple #[.slice a n c, .int .i64 (arcG ns la ts).2.1]) ∧ ArcOut w0 w' R T bq M vp vt (arcG ns la ts).2.2 ps l 5 v3 (.slice a n c) (more ++ trRows T br bq R (trCells nm d p v1 v2 (.slice a n c)) r1 r2 (arcRow (.slice a n c) (arcG ns la ts).1)) := by
  refine (arc_3 (r3 := r3) hM h hg hla).mono ?_
  rintro e w' ⟨v', h1, h2⟩
  obtain ⟨a, n, c, e5⟩ := own_form3 (h2.mem (r := arcRow v' (arcG ns la ts).1) (by simp [trRows]))
  have e5 : v' = .slice a n c := e5
  subst e5
  have hC := h2.trC
  rw [trRows_box] at h2
  exact ⟨a, n, c, h1, hC.cq, hC.t5, hC.fz 5, Lib.hid (h2.setBox 5 (.slice a n c))⟩

set_option maxRecDepth 100000 in
set_option maxHeartbeats 2000000 in
theorem out_reader (hM : SMap w0 M ns) (h : LSt w0 R M vp vt ps l more T br bq nm d p x w) :
    Calls Try.prog 102 #[.pointer (some ⟨br, 0, none⟩), .pointer (some ⟨bq, 0, none⟩)] w fun e w' => e = .returned (.int .i64 (outG ns x).2) ∧ LSt w0 R M vp vt ps l more T br bq nm d p (outG ns x).1 w' := by
  obtain ⟨hok, hg, v1, v2, v3, hS⟩ := h
  have hS0 := hS.go (Below.refl _ _).drew
  have Harc := Lib.hid (arcs_3 (r3 := arcRow v3 x.out) hM hS0 hg hok.a3)
  have hv3 := own_form3 (hS.mem (r := arcRow v3 x.out) (by simp [trRows]))
  obtain ⟨cr, cq, _, _, t5, _, lr, lq, lt⟩ := hS0.trC
  clear hS0
  have Hok := Lib.hid hok
  unfold outG
  obtain ⟨A, hA⟩ : ∃ A, A = arcG ns x.out x.ts := ⟨_, rfl⟩
  have HAl : Hid (A.1.length ≤ 8) := Lib.hid (by rw [hA]; exact arcG_len hok.a3)
  have HAg : Hid (Good A.2.2) := Lib.hid (by rw [hA]; exact (arcG_rest hg).1)
  rw [← hA] at Harc ⊢
  clear hS hA hok hg hM
  obtain ⟨a3, n3, c3, e3⟩ := hv3
  have e3 : v3 = .slice a3 n3 c3 := e3
  subst e3
  go_enter Try.func102, Try.ntmps102
  go_wp2
  go_region_law (first | (go_simp; go_at_call 100; refine Harc.out.mono ?_; rintro e w5 ⟨a5, n5, c5, rfl, f1, f2, f3, HS6⟩))
  all_goals
    clear f1 f2 f3 cr cq t5
    go_wp2
    go_ret
    exact ⟨rfl, ⟨⟨Hok.out.a1, Hok.out.a2, HAl.out⟩, HAg.out, _, _, _, HS6.out⟩⟩
end
end Go.Proofs.Ytfiielibnnodkaa
