/-
  What follows a transition's head.
  Conditions: none beyond each theorem's own.
-/
import Derived.Test.YtfiielibnnodkaaPList
import Derived.Test.YtfiielibnnodkaaPLook
namespace Go.Proofs.Ytfiielibnnodkaa
open Go.RowKit
set_option linter.unusedVariables false

section
variable {w0 w w' : World} {R T br bq M : Nat} {vp vt v1 v2 v3 : Value} {ts : List Tok} {ps : List Pl} {l : List (Tr × Value × Value × Value)} {more : List Row} {ns : List (List UInt8)} {nm : ByteArray} {d p : Int} {x : LS}

/-- a transition under way, before the closures are made -/
def trOnly (T : Nat) (cs : List Value) (r1 r2 r3 : Row) : List Row := [boxRow T 40 cs, r1, r2, r3]

/-- what arcs leaves: the transition's lists are read -/
def TSt (w0 : World) (R M : Nat) (vp vt : Value) (ps : List Pl) (l : List (Tr × Value × Value × Value)) (more : List Row) (T : Nat) (nm : ByteArray) (d p : Int) (x : LS) (w : World) : Prop :=
  x.ok ∧ Good x.ts ∧ ∃ v1 v2 v3, St w0 w R (.map (some M)) vp vt x.ts ps l (more ++ trOnly T (trCells nm d p v1 v2 v3) (arcRow v1 x.inn) (arcRow v2 x.nt) (arcRow v3 x.out))

theorem LSt.end_ (h : LSt w0 R M vp vt ps l more T br bq nm d p x w) : TSt w0 R M vp vt ps l more T nm d p x w := by
  obtain ⟨h1, h2, v1, v2, v3, h3⟩ := h
  refine ⟨h1, h2, v1, v2, v3, St.drop (r := [boxRow br 105 [.pointer (some ⟨R, 0, none⟩)], boxRow bq 131 [.pointer (some ⟨T, 0, none⟩)]]) ?_⟩
  simpa [trRows, trOnly] using h3

theorem LSt.two (h : LSt w0 R M vp vt ps l more T br bq nm d p x w) : w.cell? ⟨br, 0, none⟩ = some (.pointer (some ⟨R, 0, none⟩)) ∧ w.cell? ⟨bq, 0, none⟩ = some (.pointer (some ⟨T, 0, none⟩)) ∧ br < w.heap.size ∧ bq < w.heap.size := by
  obtain ⟨_, _, v1, v2, v3, hS⟩ := h
  have hC := hS.trC
  exact ⟨hC.cr, hC.cq, hC.lr, hC.lq⟩

theorem TSt.begin_ (h : TSt w0 R M vp vt ps l more T nm d p x w) :
    LSt w0 R M vp vt ps l more T w.heap.size (w.heap.size + 1) nm d p x ((w.alloc (.cells #[.pointer (some ⟨R, 0, none⟩)] 105)).alloc (.cells #[.pointer (some ⟨T, 0, none⟩)] 131)) := by
  obtain ⟨h1, h2, v1, v2, v3, h3⟩ := h
  have h4 := (h3.box #[.pointer (some ⟨R, 0, none⟩)] 105).box #[.pointer (some ⟨T, 0, none⟩)] 131
  have hs : (w.alloc (.cells #[.pointer (some ⟨R, 0, none⟩)] 105)).heap.size = w.heap.size + 1 := by simp
  rw [hs] at h4
  exact ⟨h1, h2, v1, v2, v3, by simpa [trRows, trOnly] using h4⟩

set_option maxRecDepth 100000 in
set_option maxHeartbeats 2000000 in
theorem arcs_reader (hM : SMap w0 M ns) (h : TSt w0 R M vp vt ps l more T nm d p x w) :
    Calls Try.prog 88 #[.pointer (some ⟨R, 0, none⟩), .pointer (some ⟨T, 0, none⟩)] w fun e w' => e = .returned (.int .i64 (arcsG ns x).2) ∧ TSt w0 R M vp vt ps l more T nm d p (arcsG ns x).1 w' := by
  have hL := h.begin_
  have hm := hL.must [58] (by simp)
  obtain ⟨A, hA⟩ : ∃ A, A = arcsG ns x := ⟨_, rfl⟩
  rw [← hA]
  have HM := Lib.hid hM
  have hg := h.2.1
  clear h hM
  have hlo : Shrinks (lookG ns) := fun y h => lookG_rest h
  have hou : Shrinks (outG ns) := fun y h => outG_rest h
  have Hlo := Lib.hid hlo
  have Hou := Lib.hid hou
  clear hlo hou
  obtain ⟨cr, cq, lr, lq⟩ := hL.two
  clear hL
  by_cases hs : (hd x.ts).text = [58]
  · rw [if_pos hs, if_pos hs] at hm
    have HA : Hid (A = if (listTop (lookG ns) [45, 62] { x with ts := x.ts.tail }).2 ≠ 0 then listTop (lookG ns) [45, 62] { x with ts := x.ts.tail }
      else if (hd (listTop (lookG ns) [45, 62] { x with ts := x.ts.tail }).1.ts).text = [45, 62] then
        listTop (outG ns) [59] { (listTop (lookG ns) [45, 62] { x with ts := x.ts.tail }).1 with ts := (listTop (lookG ns) [45, 62] { x with ts := x.ts.tail }).1.ts.tail }
      else ((listTop (lookG ns) [45, 62] { x with ts := x.ts.tail }).1, 6)) := Lib.hid (by rw [hA]; unfold arcsG; rw [if_pos hs])
    clear hs hA
    go_enter Try.func88, Try.ntmps88
    go_wp2_with fail
    refine hm.mono ?_
    rintro e w1 ⟨rfl, hL1⟩
    have hl1 := list_look (fun y w h => look_reader HM.out h) Hlo.out [45, 62] hL1
    clear cr cq lr lq
    obtain ⟨cr, cq, lr, lq⟩ := hL1.two
    clear hL1 hm
    generalize listTop (lookG ns) [45, 62] { x with ts := x.ts.tail } = B at hl1 HA
    obtain ⟨b, eb⟩ := B
    simp only at hl1 HA
    by_cases he : eb = 0
    · subst he
      have HA2 : Hid (A = if (hd b.ts).text = [45, 62] then listTop (outG ns) [59] { b with ts := b.ts.tail } else (b, 6)) := Lib.hid (by rw [HA.out, if_neg (by simp)])
      go_wp2_with fail
      refine hl1.mono ?_
      rintro e w2 ⟨rfl, hL2⟩
      have hm := hL2.must [45, 62] (by simp)
      clear cr cq lr lq
      obtain ⟨cr, cq, lr, lq⟩ := hL2.two
      clear hL2 hl1
      by_cases hs : (hd b.ts).text = [45, 62]
      · rw [if_pos hs, if_pos hs] at hm
        have HA3 : Hid (A = listTop (outG ns) [59] { b with ts := b.ts.tail }) := Lib.hid (by rw [HA2.out, if_pos hs])
        clear hs
        go_wp2_with fail
        refine hm.mono ?_
        rintro e w3 ⟨rfl, hL3⟩
        have hl2 := list_out (fun y w h => out_reader HM.out h) Hou.out [59] hL3
        clear cr cq lr lq
        obtain ⟨cr, cq, lr, lq⟩ := hL3.two
        clear hL3 hm
        rw [← HA3.out] at hl2
        go_wp2_with fail
        refine hl2.mono ?_
        rintro e w4 ⟨rfl, hL4⟩
        have HL4 := Lib.hid hL4.end_
        clear hL4 hl2
        go_wp2
        go_ret
        exact ⟨rfl, HL4.out⟩
      · rw [if_neg hs, if_neg hs] at hm
        have HA3 : Hid (A = (b, 6)) := Lib.hid (by rw [HA2.out, if_neg hs])
        clear hs
        go_wp2_with fail
        refine hm.mono ?_
        rintro e w3 ⟨rfl, hL3⟩
        have HL3 := Lib.hid hL3.end_
        clear hL3 hm
        go_wp2
        go_ret
        rw [HA3.out]
        exact ⟨rfl, HL3.out⟩
    · have hne : (eb == 0) = false := by simpa using he
      have HA2 : Hid (A = (b, eb)) := Lib.hid (by rw [HA.out, if_pos he])
      clear he
      go_wp2_with fail
      refine hl1.mono ?_
      rintro e w2 ⟨rfl, hL2⟩
      have HL2 := Lib.hid hL2.end_
      clear hL2 hl1
      go_wp2
      go_ret
      rw [HA2.out]
      exact ⟨rfl, HL2.out⟩
  · rw [if_neg hs, if_neg hs] at hm
    have HA : Hid (A = (x, 6)) := Lib.hid (by rw [hA]; unfold arcsG; rw [if_neg hs])
    clear hs hA
    go_enter Try.func88, Try.ntmps88
    go_wp2_with fail
    refine hm.mono ?_
    rintro e w1 ⟨rfl, hL1⟩
    have HL1 := Lib.hid hL1.end_
    clear hL1 hm
    go_wp2
    go_ret
    rw [HA.out]
    exact ⟨rfl, HL1.out⟩
end
end Go.Proofs.Ytfiielibnnodkaa
