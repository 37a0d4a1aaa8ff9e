/-
  Rows of texts that a call has made; what Names of net comes to.
  Conditions: none beyond each theorem's own.
-/
import Derived.Test.YtpfdmmidomofdaaNetB
namespace Go.Proofs.Ytpfdmmidomofdaa
open Go.RowKit
set_option linter.unusedVariables false

theorem Try.info_str : (Try.prog.info? 9).map (fun i => (i.zero, i.size, i.bytes)) = some (some (.string { data := #[] }), 1, 16) := by kernel_rfl

theorem cell_new1 (w : World) (u : Value) (t : TypeId) : ∀ j x, [u][j]? = some x → (w.alloc (.cells #[u] t)).cell? ((⟨w.heap.size, 0, none⟩ : Addr).add j) = some x := by
  intro j x hj
  have hb := heap_alloc_new w (.cells #[u] t)
  have e : (⟨w.heap.size, 0, none⟩ : Addr).add j = ⟨w.heap.size, j, none⟩ := by simp [Addr.add]; omega
  rw [e, cell_of_row _ _ j _ _ (0, 0) hb, ← hj]
  simp

/-- a row of texts of the call's own -/
abbrev OwnS (B : Nat) (w : World) (v : Value) (l : List ByteArray) : Prop := w.ownsRow B 9 1 v l.length (l.flatMap strL)

theorem strs_snoc (l : List ByteArray) (s : ByteArray) : (l ++ [s]).flatMap strL = l.flatMap strL ++ [.string s] := by simp [strL]

/-- 'append(l, s)' -/
theorem run_push_str {B : Nat} {v : Value} {l : List ByteArray} (ty : TypeId) (s : ByteArray) {w : World} (h : OwnS B w v l) (hl : l.length ≤ 1000000000000) (hB : B ≤ w.heap.size) :
    ∃ v' w', (Builtin.append_ #[84, 84] ty #[v, .slice (some ⟨w.heap.size, 0, none⟩) 1 1]).run Try.prog (w.alloc (.cells #[.string s] 9)) = .ok v' w' ∧ OwnS B w' v' (l ++ [s]) ∧
      Kept (fun k => v.ownBlock = some k) w w' ∧ (v'.ownBlock = v.ownBlock ∨ v'.ownBlock = some (w.heap.size + 1)) := by
  obtain ⟨i0, hi0, hz0, hz1, hz2⟩ := info_parts Try.info_str
  obtain ⟨v', w', hr, h2, h3, _, h5⟩ := run_append_own_at (P := Try.prog) (w.alloc (.cells #[.string s] 9)) B 84 ty 9 i0 _ 1 16 Try.underlying84 hi0 hz0 hz1 hz2 rfl (by omega) v l.length (l.flatMap strL) (h.alloc _)
    ⟨w.heap.size, 0, none⟩ 1 1 [.string s] rfl (cell_new1 w _ _) (by simp [Value.oneCell']) (by unfold maxLen; omega) (by omega) (by simp; omega)
  exact ⟨v', w', hr, by rw [OwnS, strs_snoc, List.length_append]; exact h2, ((Kept.refl _ w).alloc _).grown h3 (fun _ h => h), by simpa using h5⟩


theorem own_mono {B B' e size n : Nat} {w : World} {v : Value} {xs : List Value} (h : w.ownsRow B' e size v n xs) (hB : B ≤ B') : w.ownsRow B e size v n xs := by
  refine ⟨h.1, ?_⟩
  rcases h.2 with h0 | ⟨r, cap, cur, hv, hr, rest⟩
  · exact .inl h0
  · exact .inr ⟨r, cap, cur, hv, Nat.le_trans hB hr, rest⟩

theorem Kept.cellOf {S : Nat → Prop} {w w' : World} (h : Kept S w w') {b o : Nat} (hb : b < w.heap.size) (hs : ¬ S b) : w'.cell? ⟨b, o, none⟩ = w.cell? ⟨b, o, none⟩ :=
  World.cell?_of_block (w := w) (a := ⟨b, o, none⟩) (h.block b hb hs)

/-- what Names has at hand: the names so far, beside the box of the net -/
structure InNames (w wr : World) (v : Value) (l : List ByteArray) (x y : Value) : Prop where
  own : OwnS (w.heap.size + 1) wr v l
  below : Below w.heap.size w wr
  size : w.heap.size < wr.heap.size
  c0 : wr.cell? ⟨w.heap.size, 0, none⟩ = some x
  c1 : wr.cell? ⟨w.heap.size, 1, none⟩ = some y

theorem InNames.push {w wr w2 : World} {v v2 x y : Value} {l : List ByteArray} {s : ByteArray} {o : Obj} (h : InNames w wr v l x y) (h1 : OwnS (w.heap.size + 1) w2 v2 (l ++ [s]))
    (hk : Kept (fun k => v.ownBlock = some k) (wr.alloc o) w2) : InNames w w2 v2 (l ++ [s]) x y := by
  have hk2 : Kept (fun k => w.heap.size + 1 ≤ k) wr w2 := ((Kept.refl _ wr).alloc o).trans (hk.mono (fun k hk1 hk2 => (h.own.lt k hk2).1))
  refine ⟨h1, h.below.trans (hk2.below (fun k hk => by omega) (by have := h.size; omega)), Nat.lt_of_lt_of_le h.size hk2.size, ?_, ?_⟩
  · exact hk2.cell h.size (by omega) h.c0
  · exact hk2.cell h.size (by omega) h.c1

set_option maxRecDepth 100000 in
set_option maxHeartbeats 2000000 in
theorem names_any {w : World} {n : Nt} {ap at_ : Option Addr} {cp ct : Nat} (h : NetAt w (.slice ap n.places.length cp) (.slice at_ n.trans.length ct) n) (h1 : n.places.length ≤ 1000000) (h2 : n.trans.length ≤ 1000000) :
    Calls Try.prog 56 #[.agg #[.slice ap n.places.length cp, .slice at_ n.trans.length ct]] w fun e w' => ∃ v, e = .returned v ∧ OwnS w.heap.size w' v n.names ∧ Below w.heap.size w w' := by
  obtain ⟨hp, l, hts, ht⟩ := h
  obtain ⟨np, hnp⟩ : ∃ k, k = n.places.length := ⟨_, rfl⟩
  obtain ⟨nt, hnt⟩ : ∃ k, k = n.trans.length := ⟨_, rfl⟩
  rw [← hnp] at hp h1 ⊢
  rw [← hnt] at ht h2 ⊢
  have Hp := Lib.hid hp
  have Hts := Lib.hid hts
  have Ht := Lib.hid ht
  have Hnp := Lib.hid hnp
  have Hnt := Lib.hid hnt
  clear hp hts ht hnp hnt
  go_enter Try.func56, Try.ntmps56
  go_wp2
  go_loopw [3, 11] (fun v i wr => ∃ k : Nat, k ≤ np ∧ i = .int .i64 k ∧ InNames w wr v ((n.places.map (·.name)).take k) (.slice ap np cp) (.slice at_ nt ct)) (fun _ i _ => np - (intOf i).toNat)
  case atStart => exact ⟨0, by omega, rfl, World.ownsRow_nil _ _ _ _, (Below.refl _ _).alloc (Nat.le_refl _) _, by simp, by go_simp, by go_simp⟩
  case round =>
    obtain ⟨k, hk, rfl, hin⟩ := hrel
    have hsz := hin.size
    have hc1 := hin.c1
    by_cases hlt : k < np
    · obtain ⟨x, hx⟩ := at_lt (l := n.places) (k := k) (by rw [← Hnp.out]; exact hlt)
      have hlti : (k : Int) < (np : Int) := by omega
      obtain ⟨b, off, rfl, hbw, e0, e1⟩ := PlsAt.at_ (PlsAt.below Hp.out hin.below) hx
      obtain ⟨s, hs⟩ : ∃ s, s = x.name := ⟨_, rfl⟩
      obtain ⟨z, hz⟩ : ∃ s, s = x.tok := ⟨_, rfl⟩
      rw [← hs] at e0; rw [← hz] at e1
      have Hx : Hid ((n.places.map (·.name)).take (k + 1) = (n.places.map (·.name)).take k ++ [s]) := Lib.hid (take_at (by rw [List.getElem?_map, hx, hs]; rfl))
      obtain ⟨v2, w2, hr, ho2, hk2, hv2⟩ := run_push_str 84 s (hin.own.alloc (.cells #[.string s, .int .i64 z] 50)) (by rw [List.length_take]; omega) (by simp; omega)
      have Hin := Lib.hid (hin.push ho2 hk2)
      rw [show (wr.alloc (.cells #[.string s, .int .i64 z] 50)).heap.size = wr.heap.size + 1 by simp] at hr
      clear hs hz hx ho2 hk2 hv2 hin
      go_wp2_with (at_builtin; refine wpList_append_eq rfl (.tmp 15) (.tmp 18) 84 rfl rfl rfl hr ?_)
      go_roundw
      case rel => exact ⟨k + 1, by omega, by go_num, by rw [Hx.out]; exact Hin.out⟩
      case measure => simp [intOf]; omega
    · have hge : ¬ (k : Int) < (np : Int) := by omega
      have Hin : Hid (InNames w wr _ (n.places.map (·.name) ++ (n.trans.map (·.name)).take 0) _ _) := Lib.hid (by
        have e : (n.places.map (·.name)).take k = n.places.map (·.name) ++ (n.trans.map (·.name)).take 0 := by
          rw [List.take_of_length_le (by rw [List.length_map, ← Hnp.out]; omega)]; simp
        rw [← e]; exact hin)
      clear hin
      go_wp2
      go_loopw [3, 24] (fun v i wr => ∃ k : Nat, k ≤ nt ∧ i = .int .i64 k ∧ InNames w wr v (n.places.map (·.name) ++ (n.trans.map (·.name)).take k) (.slice ap np cp) (.slice at_ nt ct)) (fun _ i _ => nt - (intOf i).toNat)
      case atStart => exact ⟨0, by omega, rfl, Hin.out⟩
      case round =>
        obtain ⟨k, hk, rfl, hin⟩ := hrel
        by_cases hlt : k < nt
        · obtain ⟨t, ht⟩ := at_lt (l := n.trans) (k := k) (by rw [← Hnt.out]; exact hlt)
          have hlti : (k : Int) < (nt : Int) := by omega
          obtain ⟨b, off, a1, c1, a2, c2, a3, c3, rfl, hbw, e0, e1, e2, e3, e4, e5, _, _, _⟩ := (Ht.out.below hin.below).at_ (i := k) (t := t) (by rw [Hts.out]; exact ht)
          have Hx : Hid ((n.trans.map (·.name)).take (k + 1) = (n.trans.map (·.name)).take k ++ [t.name]) := Lib.hid (take_at (by rw [List.getElem?_map, ht]; rfl))
          obtain ⟨v2, w2, hr, ho2, hk2, hv2⟩ := run_push_str 84 t.name (hin.own.alloc (.cells #[.string t.name, .int .i64 t.delay, .int .i64 t.prio, .slice a1 t.inn.length c1, .slice a2 t.nt.length c2, .slice a3 t.out.length c3] 46)) (by have := Hnp.out; rw [List.length_append, List.length_take, List.length_map]; omega) (by simp; have := hin.size; omega)
          have Hin := Lib.hid (hin.push ho2 hk2)
          rw [show ∀ (W : World) (o : Obj), (W.alloc o).heap.size = W.heap.size + 1 from fun W o => by simp] at hr
          clear ht ho2 hk2 hv2 hin
          go_wp2_with (at_builtin; refine wpList_append_eq rfl (.tmp 28) (.tmp 31) 84 rfl rfl rfl hr ?_)
          go_roundw
          case rel => exact ⟨k + 1, by omega, by go_num, by rw [Hx.out, ← List.append_assoc]; exact Hin.out⟩
          case measure => simp [intOf]; omega
        · have hge : ¬ (k : Int) < (nt : Int) := by omega
          have Hin2 : Hid (InNames w _ _ n.names _ _) := Lib.hid (by
            have e : n.names = n.places.map (·.name) ++ (n.trans.map (·.name)).take k := by
              rw [List.take_of_length_le (by rw [List.length_map, ← Hnt.out]; omega)]; rfl
            rw [e]; exact hin)
          clear hin
          go_wp2
          go_ret
          exact ⟨_, rfl, own_mono Hin2.out.own (by omega), Hin2.out.below⟩
end Go.Proofs.Ytpfdmmidomofdaa
