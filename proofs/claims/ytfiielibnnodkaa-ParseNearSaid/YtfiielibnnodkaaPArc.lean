/-
  The parser's arcs.
  Conditions: none beyond each theorem's own.
-/
import Derived.Test.YtfiielibnnodkaaPName
import Derived.Test.YtfiielibnnodkaaSMap
import Derived.Test.YtfiielibnnodkaaPHas
namespace Go.Proofs.Ytfiielibnnodkaa
open Go.RowKit
set_option linter.unusedVariables false

section
variable {w0 w w' : World} {R : Nat} {vm vp vt v : Value} {ts : List Tok} {ps : List Pl} {l : List (Tr × Value × Value × Value)} {more pre post : List Row} {la : List (Int × Int)} {M b : Nat} {ns : List (List UInt8)}

theorem St.below (h : St w0 w R vm vp vt ts ps l more) : Below w0.heap.size w0 w := by
  obtain ⟨vk, h1, h2, h3⟩ := h
  exact h3

theorem SMap.up (h : SMap w b ns) (hb : Below w.heap.size w w') : SMap w' b ns := h.same (hb.block b h.lt)

theorem AllOwn.toNil {B : Nat} {r r' : Row} (h : AllOwn B w (pre ++ r :: post)) (hr : r'.own B w) (hn : r'.v.ownBlock = none) : AllOwn B w (pre ++ r' :: post) := by
  have h2 : AllOwn B w (pre ++ post) := h.sub (List.Sublist.append (List.Sublist.refl _) (List.sublist_cons_self _ _))
  have hp := h2.apart
  rw [List.pairwise_append] at hp
  obtain ⟨p1, p2, p3⟩ := hp
  have ha : ∀ x : Row, Apart x r' := fun x k _ e => by rw [hn] at e; cases e
  refine ⟨fun x hm => ?_, ?_⟩
  · rw [List.mem_append, List.mem_cons] at hm
    rcases hm with hm | rfl | hm
    · exact h2.own x (by simp [hm])
    · exact hr
    · exact h2.own x (by simp [hm])
  · rw [List.pairwise_append, List.pairwise_cons]
    refine ⟨p1, ⟨fun x _ => (ha x).symm, p2⟩, fun a hx b hb => ?_⟩
    rw [List.mem_cons] at hb
    rcases hb with rfl | hb
    · exact ha a
    · exact p3 a hx b hb

/-- a row beside is gone -/
theorem St.nilRow {r : Row} (h : St w0 w R vm vp vt ts ps l (pre ++ r :: post)) : St w0 w R vm vp vt ts ps l (pre ++ arcRow (.slice none 0 0) [] :: post) := by
  obtain ⟨vk, h1, h2, h3⟩ := h
  refine ⟨vk, h1, ?_, h3⟩
  have e : ∀ r : Row, boxRow R 77 [vk, vm, vp, vt] :: (netRows vp vt ps l ++ (pre ++ r :: post)) = (boxRow R 77 [vk, vm, vp, vt] :: (netRows vp vt ps l ++ pre)) ++ r :: post := fun r => by simp
  rw [e] at h2 ⊢
  exact h2.toNil (ownNil _ _ _ _) rfl
/-- a row beside is another one -/
theorem St.swapRow {r r' : Row} (h : St w0 w R vm vp vt ts ps l (pre ++ r :: post)) (hk : Kept (fun k => r.v.ownBlock = some k) w w') (hr : r'.own w0.heap.size w') (hf : r'.v.ownBlock = r.v.ownBlock ∨ ∃ k, r'.v.ownBlock = some k ∧ w.heap.size ≤ k) :
    St w0 w' R vm vp vt ts ps l (pre ++ r' :: post) := by
  obtain ⟨vk, h1, h2, h3⟩ := h
  have e : ∀ r : Row, boxRow R 77 [vk, vm, vp, vt] :: (netRows vp vt ps l ++ (pre ++ r :: post)) = (boxRow R 77 [vk, vm, vp, vt] :: (netRows vp vt ps l ++ pre)) ++ r :: post := fun r => by simp
  have hr0 := h2.own r (by simp)
  refine ⟨vk, h1, ?_, h3.trans (hk.below (fun k hk => (Row.lt hr0 hk).1) h3.size)⟩
  rw [e] at h2 ⊢
  exact h2.swap hk hr hf

set_option maxRecDepth 100000 in
set_option maxHeartbeats 2000000 in
theorem arc_reader (hM : SMap w0 M ns) (h : St w0 w R (.map (some M)) vp vt ts ps l (pre ++ arcRow v la :: post)) (hg : Good ts) (hla : la.length ≤ 8) :
    Calls Try.prog 100 #[.pointer (some ⟨R, 0, none⟩), v] w fun e w' => ∃ v', e = .returned (.tuple #[v', .int .i64 (arcG ns la ts).2.1]) ∧ St w0 w' R (.map (some M)) vp vt (arcG ns la ts).2.2 ps l (pre ++ arcRow v' (arcG ns la ts).1 :: post) := by
  have hnx := next_any h hg
  unfold tokV at hnx
  obtain ⟨A, hA⟩ : ∃ A, A = arcG ns la ts := ⟨_, rfl⟩
  rw [← hA]
  have HA := Lib.hid hA
  clear hA
  obtain ⟨kk, hkk⟩ : ∃ k, k = ns.idxOf (hd ts).text := ⟨_, rfl⟩
  have Hkk := Lib.hid hkk
  clear hkk
  have hO := h.mem (r := arcRow v la) (by simp)
  obtain ⟨av, cv, ev⟩ := own_form hO
  obtain ⟨nv, hnv⟩ : ∃ n, n = la.length := ⟨_, rfl⟩
  have ev : v = .slice av nv cv := by rw [hnv]; exact ev
  subst ev
  have Hnv := Lib.hid hnv
  clear hnv
  by_cases hk : (hd ts).kind = 1
  · have hk2 : ((((hd ts).kind : Nat) : Int) == 1) = true := by rw [hk]; rfl
    have Hg2 := Lib.hid (hg.tailK (by rw [hk]; decide))
    have Hki : Hid (¬ (hd ts).kind ≠ 1) := Lib.hid (by rw [hk]; simp)
    clear hk
    have H := Lib.hid h
    have Hg := Lib.hid hg
    have HM := Lib.hid hM
    have hsm := hg.small
    clear h hg hM hO
    by_cases hin : (hd ts).text ∈ ns
    · go_enter Try.func100, Try.ntmps100
      go_wp2_with fail
      refine hnx.mono ?_
      rintro e w1 ⟨rfl, hb⟩
      have hS := (H.out.go hb).box #[.int .u8 ((hd ts).kind : Int), .string (bs (hd ts).text), .int .i64 ((hd ts).num : Int), .int .i64 ((hd ts).at_ : Int)] 81
      clear hb hnx
      generalize hW : w1.alloc (.cells #[.int .u8 ((hd ts).kind : Int), .string (bs (hd ts).text), .int .i64 ((hd ts).num : Int), .int .i64 ((hd ts).at_ : Int)] 81) = W at hS
      obtain ⟨a, n, c, hC, hn, hnc, hcm, b, off, rfl, hb, hb0, e0, e1, e2, e3⟩ := hS.cells Hg.out
      obtain ⟨c0, c1, c2, c3, fz, lt⟩ := hC
      have hB := hS.mem (r := boxRow w1.heap.size 81 [.int .u8 ((hd ts).kind : Int), .string (bs (hd ts).text), .int .i64 ((hd ts).num : Int), .int .i64 ((hd ts).at_ : Int)]) (by simp)
      have b1 := boxRow.cell hB (j := 1) rfl
      have b0 := boxRow.cell hB (j := 0) rfl
      have ltb := (boxRow.lt hB).2
      have HS := Lib.hid hS
      have hb1 := hS.below
      have lk : ∀ w', Below W.heap.size W w' → (Instr.lookup 74 (.map (some M)) (.string (bs (hd ts).text)) true).run Try.prog w' = .ok (.tuple #[.int .i64 (kk : Int), .bool true]) w' := fun w' hb2 => by rw [Hkk.out]; exact SMap.look (HM.out.up (hb1.trans (hb2.mono hb1.size))) hsm hin
      have lk1 := lk W (Below.refl _ _)
      have lk2 := lk W.drew (Below.refl _ _).drew
      have lk3 := fun o => lk (W.drew.alloc o) ((Below.refl _ _).drew.alloc (Nat.le_refl _) o)
      have lk4 := fun o => lk (W.alloc o).drew ((Below.refl _ _).alloc (Nat.le_refl _) o).drew
      clear hS hB e0 e1 e2 e3 c0 c2 c3 hn hnc hcm hb hb0 fz lk hb1
      go_wp2
      clear hW b0
      go_region
      have hS2 := (HS.out.box #[.int .i64 (kk : Int)] 3).go (Below.refl _ _).drew
      generalize hW2 : (W.alloc (.cells #[.int .i64 (kk : Int)] 3)).drew = W2 at hS2 ⊢
      have hB := hS2.mem (r := boxRow W.heap.size 3 [.int .i64 (kk : Int)]) (by simp)
      have g0 := boxRow.cell hB (j := 0) rfl
      have ltg := (boxRow.lt hB).2
      have hcon := rconArc_any Hnv.out (OwnA.at_ (hS2.mem (r := arcRow (.slice av nv cv) la) (by simp))) ltg g0
      have HS2 := Lib.hid hS2
      clear hW2 hS2 hB lk1 lk2 lk3 lk4 HS ltb b1 c1 lt
      by_cases hhas : hasP la (kk : Int) = true
      · rw [hhas] at hcon
        have Hr : Hid ((hd ts).text ∉ ns ∨ hasP la (kk : Int) = true) := Lib.hid (.inr hhas)
        clear hin hhas
        go_wp2_with fail
        refine hcon.mono ?_
        rintro e w3 ⟨rfl, hb⟩
        have HS3 := Lib.hid (HS2.out.go hb)
        clear hb hcon
        go_wp2
        go_ret2
        rw [show A = ([], 7, ts) by rw [HA.out]; unfold arcG; rw [← Hkk.out, if_neg Hki.out, if_pos Hr.out]]
        exact ⟨_, rfl, HS3.out.drop.drop.nilRow⟩
      · have hhas : hasP la (kk : Int) = false := by simpa using hhas
        rw [hhas] at hcon
        have Hr : Hid (¬ ((hd ts).text ∉ ns ∨ hasP la (kk : Int) = true)) := Lib.hid (by rw [hhas]; simp [hin])
        clear hin hhas
        by_cases h8 : nv = 8
        · have h8b : ((nv : Int) == 8) = true := by rw [h8]; rfl
          have H8 : Hid (la.length = 8) := Lib.hid (by rw [← Hnv.out, h8])
          clear h8
          go_wp2_with fail
          refine hcon.mono ?_
          rintro e w3 ⟨rfl, hb⟩
          have HS3 := Lib.hid (HS2.out.go hb)
          clear hb hcon
          go_wp2
          go_ret2
          rw [show A = ([], 5, ts) by rw [HA.out]; unfold arcG; rw [← Hkk.out, if_neg Hki.out, if_neg Hr.out, if_pos H8.out]]
          exact ⟨_, rfl, HS3.out.drop.drop.nilRow⟩
        · have h8b : ((nv : Int) == 8) = false := by simp; omega
          have H8 : Hid (¬ la.length = 8) := Lib.hid (by rw [← Hnv.out]; exact h8)
          have Hla := Lib.hid hla
          clear h8 hla
          go_wp2_with fail
          refine hcon.mono ?_
          rintro e w3 ⟨rfl, hb⟩
          have hsk := skip_reader (HS2.out.go hb) Hg.out Hg2.out
          clear hb hcon g0
          go_wp2_with fail
          refine hsk.mono ?_
          rintro e w4 ⟨rfl, hS4⟩
          have hnum := number_reader hS4 Hg2.out [42] (by simp) 1
          clear hS4 hsk
          have HA2 : Hid (A = if (numG [42] 1 ts.tail).2.1 ≠ 0 then ([], (numG [42] 1 ts.tail).2.1, (numG [42] 1 ts.tail).2.2) else (la ++ [((kk : Int), (numG [42] 1 ts.tail).1)], 0, (numG [42] 1 ts.tail).2.2)) := Lib.hid (by rw [HA.out]; unfold arcG; rw [← Hkk.out, if_neg Hki.out, if_neg Hr.out, if_neg H8.out])
          generalize numG [42] 1 ts.tail = q at hnum HA2
          obtain ⟨qn, qe, qt⟩ := q
          simp only at hnum HA2
          by_cases he : qe = 0
          · subst he
            go_wp2_with fail
            refine hnum.mono ?_
            rintro e w5 ⟨rfl, hS5⟩
            have hB := hS5.mem (r := boxRow W.heap.size 3 [.int .i64 (kk : Int)]) (by simp)
            have g0 := boxRow.cell hB (j := 0) rfl
            have ltg := (boxRow.lt hB).2
            obtain ⟨v', w6, hr, ho, hkk, hf⟩ := run_push_arc 38 (kk : Int) qn (hS5.mem (r := arcRow (.slice av nv cv) la) (by simp)) (by have := Hla.out; omega) hS5.below.size
            have HS5 := Lib.hid hS5
            have Ho := Lib.hid ho
            have Hk := Lib.hid hkk
            have Hf := Lib.hid hf
            clear hS5 hB hnum ho hkk hf
            go_wp2_with (at_builtin; refine wpList_append_eq rfl (.tmp 46) (.tmp 50) 38 rfl rfl rfl hr ?_)
            go_ret2
            rw [show A = (la ++ [((kk : Int), qn)], 0, qt) by rw [HA2.out, if_neg (by simp)]]
            refine ⟨_, rfl, ?_⟩
            have hS5 := HS5.out.drop.drop
            exact hS5.swapRow Hk.out (r' := arcRow v' (la ++ [((kk : Int), qn)])) Ho.out (by
              rcases Hf.out with e | e
              · exact .inl e
              · exact .inr ⟨_, e, by omega⟩)
          · have heb : (qe == 0) = false := by simpa using he
            go_wp2_with fail
            refine hnum.mono ?_
            rintro e w5 ⟨rfl, hS5⟩
            have HS5 := Lib.hid hS5
            have He := Lib.hid he
            clear hS5 hnum he
            go_wp2
            go_ret2
            rw [show A = ([], qe, qt) by rw [HA2.out, if_pos He.out]]
            exact ⟨_, rfl, HS5.out.drop.drop.nilRow⟩
    · go_enter Try.func100, Try.ntmps100
      go_wp2_with fail
      refine hnx.mono ?_
      rintro e w1 ⟨rfl, hb⟩
      have hS := (H.out.go hb).box #[.int .u8 ((hd ts).kind : Int), .string (bs (hd ts).text), .int .i64 ((hd ts).num : Int), .int .i64 ((hd ts).at_ : Int)] 81
      clear hb hnx
      generalize hW : w1.alloc (.cells #[.int .u8 ((hd ts).kind : Int), .string (bs (hd ts).text), .int .i64 ((hd ts).num : Int), .int .i64 ((hd ts).at_ : Int)] 81) = W at hS
      obtain ⟨a, n, c, hC, hn, hnc, hcm, b, off, rfl, hb, hb0, e0, e1, e2, e3⟩ := hS.cells Hg.out
      obtain ⟨c0, c1, c2, c3, fz, lt⟩ := hC
      have hB := hS.mem (r := boxRow w1.heap.size 81 [.int .u8 ((hd ts).kind : Int), .string (bs (hd ts).text), .int .i64 ((hd ts).num : Int), .int .i64 ((hd ts).at_ : Int)]) (by simp)
      have b1 := boxRow.cell hB (j := 1) rfl
      have b0 := boxRow.cell hB (j := 0) rfl
      have ltb := (boxRow.lt hB).2
      have HS := Lib.hid hS
      have hb1 := hS.below
      have lk : ∀ w', Below W.heap.size W w' → (Instr.lookup 74 (.map (some M)) (.string (bs (hd ts).text)) true).run Try.prog w' = .ok (.tuple #[.int .i64 0, .bool false]) w' := fun w' hb2 => SMap.miss (HM.out.up (hb1.trans (hb2.mono hb1.size))) hsm hin
      have lk1 := lk W (Below.refl _ _)
      have lk2 := lk W.drew (Below.refl _ _).drew
      have lk3 := fun o => lk (W.drew.alloc o) ((Below.refl _ _).drew.alloc (Nat.le_refl _) o)
      have lk4 := fun o => lk (W.alloc o).drew ((Below.refl _ _).alloc (Nat.le_refl _) o).drew
      clear hS hB e0 e1 e2 e3 c0 c2 c3 hn hnc hcm hb hb0 fz lk hb1
      go_wp2
      clear hW b0
      go_region
      have hS2 := (HS.out.box #[.int .i64 0] 3).go (Below.refl _ _).drew
      generalize hW2 : (W.alloc (.cells #[.int .i64 0] 3)).drew = W2 at hS2 ⊢
      have HS2 := Lib.hid hS2
      have Hr : Hid ((hd ts).text ∉ ns ∨ hasP la (kk : Int) = true) := Lib.hid (.inl hin)
      clear hW2 hS2 lk1 lk2 lk3 lk4 HS ltb b1 c1 lt hin
      go_wp2
      go_ret2
      rw [show A = ([], 7, ts) by rw [HA.out]; unfold arcG; rw [← Hkk.out, if_neg Hki.out, if_pos Hr.out]]
      exact ⟨_, rfl, HS2.out.drop.drop.nilRow⟩
  · have hk2 : ((((hd ts).kind : Nat) : Int) == 1) = false := by simp; omega
    have hAe : A = ([], 6, ts) := by rw [HA.out]; unfold arcG; rw [if_pos hk]
    subst hAe
    have H := Lib.hid h
    clear h hO hM
    go_enter Try.func100, Try.ntmps100
    go_wp2_with fail
    refine hnx.mono ?_
    rintro e w1 ⟨rfl, hb⟩
    have HS := Lib.hid ((H.out.go hb).go ((Below.refl _ w1).alloc (Nat.le_refl _) (.cells #[.int .u8 ((hd ts).kind : Int), .string (bs (hd ts).text), .int .i64 ((hd ts).num : Int), .int .i64 ((hd ts).at_ : Int)] 81)))
    clear hb hnx
    go_wp2
    go_ret2
    exact ⟨_, rfl, HS.out.nilRow⟩
end
end Go.Proofs.Ytfiielibnnodkaa
