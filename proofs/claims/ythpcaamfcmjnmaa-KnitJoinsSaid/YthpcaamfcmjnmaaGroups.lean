/-
  What Groups of knit comes to: the groups, by their smallest elements, each in increasing order, as slices of their own.
  Conditions: at most 1000000 elements.
-/
import Derived.Test.YthpcaamfcmjnmaaKnitb
import Derived.Test.YthpcaamfcmjnmaaRows2
import Derived.Test.YthpcaamfcmjnmaaGroupMath
import Derived.Deep.CutRange
namespace Go.Proofs.Ythpcaamfcmjnmaa
open Go.RowKit
set_option linter.unusedVariables false

theorem groups_nil (w : World) : Calls Try.prog 20 #[.pointer none] w fun e w' => e = .returned (.slice none 0 0) ∧ w = w' := by
  go_enter Try.func20, Try.ntmps20
  go_wp2
  go_ret
  exact ⟨rfl, rfl⟩

/-- what the loop has when element i comes -/
structure InGroups (B : Nat) (w0 : World) (g b m : Nat) (rho : Nat → Nat) (i : Nat) (G : List (List Nat)) (wr : World) (v : Value) (vs : List Value) : Prop where
  rows : Rows2 (w0.heap.size + 1) wr v vs G
  map : IMap wr w0.heap.size (idx rho i) m
  knit : KnitAt B wr g b m rho
  kept : Kept (fun k => k = b) w0 wr

section
variable {B : Nat} {w0 wr w' : World} {g b m i : Nat} {rho : Nat → Nat} {G : List (List Nat)} {v : Value} {vs : List Value}

theorem InGroups.big (h : InGroups B w0 g b m rho i G wr v vs) : w0.heap.size + 1 ≤ wr.heap.size := h.map.lt

theorem InGroups.found (h : InGroups B w0 g b m rho i G wr v vs) (hb : b < w0.heap.size) (h1 : KnitAt B w' g b m rho) (hk : Kept (fun k => k = b) wr w') : InGroups B w0 g b m rho i G w' v vs :=
  ⟨h.rows.kept hk (fun k h e => by omega), h.map.same (hk.block _ h.map.lt (by omega)), h1, h.kept.trans hk⟩

theorem InGroups.stored (h : InGroups B w0 g b m rho i G wr v vs) (hg : g < w0.heap.size) (hb : b < w0.heap.size) {f : Nat → Option Nat} {j : Nat} (hf : f = idx rho j) (h1 : IMap w' w0.heap.size f m) (hgr : wr.grownBy w' (some w0.heap.size)) : InGroups B w0 g b m rho j G w' v vs := by
  have hk : Kept (fun k => k = w0.heap.size) wr w' := (Kept.refl _ wr).grown hgr (fun k e => by injection e with e; exact e.symm)
  have hk2 : Kept (fun k => k = b) w0 w' := ⟨hk.os.trans h.kept.os, hk.tape.trans h.kept.tape, hk.output.trans h.kept.output, Nat.le_trans h.kept.size hk.size, fun k hk1 hk3 => (hk.block k (by have := h.kept.size; omega) (by omega)).trans (h.kept.block k hk1 hk3)⟩
  exact ⟨h.rows.kept hk (fun k h e => by omega), hf ▸ h1, h.knit.kept hk (by omega) (by omega), hk2⟩

/-- all that is changed lies among the rows -/
theorem InGroups.rowed (h : InGroups B w0 g b m rho i G wr v vs) (hg : g < w0.heap.size) (hb : b < w0.heap.size) {G' : List (List Nat)} {v' : Value} {vs' : List Value} (h1 : Rows2 (w0.heap.size + 1) w' v' vs' G') (hk : Kept (fun k => w0.heap.size + 1 ≤ k) wr w') : InGroups B w0 g b m rho i G' w' v' vs' := by
  have hk2 : Kept (fun k => k = b) w0 w' := ⟨hk.os.trans h.kept.os, hk.tape.trans h.kept.tape, hk.output.trans h.kept.output, Nat.le_trans h.kept.size hk.size, fun k hk1 hk3 => (hk.block k (by have := h.kept.size; omega) (by omega)).trans (h.kept.block k hk1 hk3)⟩
  exact ⟨h1, h.map.same (hk.block _ h.map.lt (by omega)), h.knit.kept hk (by omega) (by omega), hk2⟩

theorem InGroups.next (h : InGroups B w0 g b m rho i G wr v vs) (hi : rho i ≠ i) : InGroups B w0 g b m rho (i + 1) G wr v vs :=
  ⟨h.rows, by rw [idx_other hi]; exact h.map, h.knit, h.kept⟩

end

set_option maxRecDepth 100000 in
set_option maxHeartbeats 2000000 in
theorem groups_any {B g b m : Nat} {rho : Nat → Nat} (w : World) (h : KnitAt B w g b m rho) :
    Calls Try.prog 20 #[.pointer (some ⟨g, 0, none⟩)] w fun e w' => ∃ v vs, e = .returned v ∧ Rows2 (w.heap.size + 1) w' v vs (groupsOf rho m) ∧ KnitAt B w' g b m rho ∧ Kept (fun k => k = b) w w' := by
  have hmm := @run_makeMap Try.prog
  have hm := h.le
  have hgl := h.lt
  have hbl := h.blt
  have hc0 : (w.alloc (.map #[] 0)).cell? ⟨g, 0, none⟩ = some (.int .i64 m) := (h.below ((Below.refl _ w).alloc (Nat.le_refl _) _)).count
  have Hroot := Lib.hid h.root
  have I0 : Hid (InGroups B w g b m rho 0 [] (w.alloc (.map #[] 0)) (.slice none 0 0) []) := Lib.hid ⟨Rows2.nil _ _, by
    have e : idx rho 0 = fun _ => none := by funext c; simp [idx]
    rw [e]; exact IMap.new w m, h.below ((Below.refl _ w).alloc (Nat.le_refl _) _), (Kept.refl _ w).alloc _⟩
  clear h
  go_enter Try.func20, Try.ntmps20
  go_wp2
  go_loopw [3, 16] (fun s t wr => ∃ i : Nat, ∃ vs, i ≤ m ∧ t = .int .i64 i ∧ InGroups B w g b m rho i (groupsOf rho i) wr s vs) (fun _ t _ => m - (intOf t).toNat)
  case atStart => exact ⟨0, [], Nat.zero_le _, rfl, I0.out⟩
  case round =>
    obtain ⟨i, vs, hi, rfl, hI⟩ := hrel
    have HI := Lib.hid hI
    clear hI
    by_cases him : i < m
    · have himi : (i : Int) < (m : Int) := by omega
      go_wp2_with fail
      refine (find_in i HI.out.knit him).mono ?_
      rintro e w1 ⟨rfl, h1, k1⟩
      have HI1 := Lib.hid (HI.out.found hbl h1 k1)
      clear h1 k1 HI
      obtain ⟨hle, hrr⟩ := Hroot.out i
      obtain ⟨p, ok, hlook, hcase⟩ : ∃ (p : Nat) (ok : Bool), (Instr.lookup 57 (.map (some w.heap.size)) (.int .i64 (rho i)) true).run Try.prog w1 = .ok (.tuple #[.int .i64 p, .bool ok]) w1 ∧ ((ok = false ∧ rho i = i) ∨ (ok = true ∧ rho i < i ∧ p = (roots rho (rho i)).length)) := by
        by_cases hroot : rho i = i
        · exact ⟨0, false, HI1.out.map.miss (c := rho i) (by omega) (by simp [idx, hroot]), .inl ⟨rfl, hroot⟩⟩
        · exact ⟨_, true, HI1.out.map.look_ok hm (c := rho i) (p := (roots rho (rho i)).length) (by unfold idx; rw [if_pos ⟨by omega, hrr⟩]), .inr ⟨rfl, by omega, rfl⟩⟩
      have Hcase := Lib.hid hcase
      clear hcase
      have hlen := Lib.hid (groups_len rho i)
      have hlr := Lib.hid (roots_len_le rho i)
      obtain ⟨av, cv, hsv⟩ := HI1.out.rows.form
      subst hsv
      go_upto_if 29 with fail
      go_cut [3, 7, 16] from 16 to 48 (fun s t t16 wc => t16 = .int .i64 i ∧ ∃ (k : Nat) (G : List (List Nat)) (vs : List Value), t = .int .i64 k ∧ k < G.length ∧ G.length ≤ i + 1 ∧ G.set k (G.getD k [] ++ [i]) = groupsOf rho (i + 1) ∧ InGroups B w g b m rho (i + 1) G wc s vs)
      case first =>
        rcases Hcase.out with ⟨rfl, hroot⟩ | ⟨rfl, hlt, rfl⟩
        · obtain ⟨w2, hst, hi2, hg2⟩ := HI1.out.map.store (c := rho i) (p := (groupsOf rho i).length) hm (by omega) (by rw [hlen.out]; have := hlr.out; omega)
          have HI2 := Lib.hid (HI1.out.stored hgl hbl (j := i + 1) (by rw [idx_root hroot, hlen.out, hroot]) hi2 hg2)
          clear hi2 hg2 HI1
          obtain ⟨v3, w3, hr3, ho3, hk3, hv3⟩ := run_push_nil 41 HI2.out.rows.out (by rw [hlen.out]; have := hlr.out; omega) HI2.out.big
          have HI3 := Lib.hid (HI2.out.rowed hgl hbl (HI2.out.rows.push ho3 hk3 hv3) (hk3.mono (fun k _ e => (HI2.out.rows.out.lt k e).1)))
          have Hr2 := Lib.hid hroot
          clear ho3 hk3 hv3 HI2 hroot
          go_wp2_with (at_builtin; refine wpList_append_eq rfl (.tmp 35) (.tmp 36) 41 rfl rfl rfl hr3 ?_)
          go_meet
          case rel => exact ⟨rfl, (groupsOf rho i).length, _, _, rfl, by simp, by simp [hlen.out]; exact hlr.out, by rw [groups_root (fun c => (Hroot.out c).1) Hr2.out]; simp [List.getD], HI3.out⟩
        · go_wp2
          go_meet
          case rel => exact ⟨rfl, (roots rho (rho i)).length, _, _, rfl, by rw [hlen.out]; exact (List.getElem?_eq_some_iff.1 (roots_at hrr i hlt)).1, by have := hlr.out; rw [hlen.out]; omega, (groups_other rfl hlt hrr).symm, HI1.out.next (by omega)⟩
      case rest =>
        obtain ⟨rfl, k, G, vs2, rfl, hk, hG, hset, hI2⟩ := hcut
        obtain ⟨r, cap, rfl, hrB, hrl, hcell⟩ := hI2.rows.place (by omega)
        obtain ⟨hc, hf⟩ := hcell k hk
        have hlk : (G.getD k []).length ≤ i + 1 := by
          have h1 : (groupsOf rho (i + 1)).getD k [] = G.getD k [] ++ [i] := by rw [← hset]; simp [List.getD, hk]
          have h2 := groups_row_le rho (i + 1) k
          rw [h1] at h2
          simp at h2 ⊢
          omega
        obtain ⟨ak, ck, hvk⟩ := hI2.rows.rowform k hk
        obtain ⟨v3, w3, hr3, ho3, hk3, hv3⟩ := run_push_int 46 i (hI2.rows.row k hk) (by omega) hI2.big
        obtain ⟨hR, hkR⟩ := hI2.rows.add hk ho3 hk3 hv3
        have HI4 := Lib.hid (hI2.rowed hgl hbl hR hkR)
        have hnr : ¬ (vs2.getD k undef).ownBlock = some r := fun e => hI2.rows.off k r hk e (by simp [Value.ownBlock])
        have hc3 := hk3.cell hrl hnr hc
        have hf3 := hk3.froz hrl hnr hf
        obtain ⟨a3, c3, hv3f⟩ := own_form ho3
        obtain ⟨n3, hn3⟩ : ∃ n3, n3 = (G.getD k [] ++ [i]).length := ⟨_, rfl⟩
        rw [← hn3] at hv3f
        rw [hvk] at hc hr3 hc3
        subst hv3f
        obtain ⟨n, hn⟩ : ∃ n, n = G.length := ⟨_, rfl⟩
        obtain ⟨nk, hnk⟩ : ∃ nk, nk = (G.getD k []).length := ⟨_, rfl⟩
        rw [← hnk] at hc hr3 hc3
        rw [← hn] at hk hG HI4
        simp only [← hn]
        have Hset := Lib.hid hset
        have hki : (k : Int) < (n : Int) := by omega
        clear ho3 hk3 hv3 hR hkR hset hcell hI2 hvk hn hnk hnr hlk hn3
        go_wp2_with (at_builtin; refine wpList_append_eq rfl (.tmp 43) (.tmp 45) 46 rfl rfl rfl hr3 ?_)
        go_roundw
        case rel => exact ⟨i + 1, _, by omega, by go_num, by rw [← Hset.out]; exact HI4.out⟩
        case measure => simp [intOf]; omega
    · go_wp2
      go_ret
      obtain rfl : i = m := by omega
      exact ⟨_, _, rfl, HI.out.rows, HI.out.knit, HI.out.kept⟩

end Go.Proofs.Ythpcaamfcmjnmaa
