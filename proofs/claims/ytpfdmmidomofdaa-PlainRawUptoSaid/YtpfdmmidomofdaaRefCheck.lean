/-
  What the document's own Check of a net comes to.
  Conditions: names of up to 2000000 bytes.
-/
import Derived.Test.YtpfdmmidomofdaaRefArcs
import Derived.Test.YtpfdmmidomofdaaRName
namespace Go.Proofs.Ytpfdmmidomofdaa
open Go.RowKit
set_option linter.unusedVariables false

/-- what Check has at hand behind its names: all names, the net's box, and what has come since -/
structure InCheck (w wr : World) (v : Value) (n : Nt) (x y : Value) : Prop where
  below : Below w.heap.size w wr
  size : w.heap.size < wr.heap.size
  c0 : wr.cell? ⟨w.heap.size, 0, none⟩ = some x
  c1 : wr.cell? ⟨w.heap.size, 1, none⟩ = some y
  names : StrsAt wr v n.names

theorem InCheck.of {w wr : World} {v x y : Value} {n : Nt} (h : InNames w wr v n.names x y) : InCheck w wr v n x y := ⟨h.below, h.size, h.c0, h.c1, RowAt.of_own h.own⟩
theorem InCheck.go {w wr w' : World} {v x y : Value} {n : Nt} (h : InCheck w wr v n x y) (hb : Below wr.heap.size wr w') : InCheck w w' v n x y :=
  ⟨h.below.trans (hb.mono h.below.size), Nat.lt_of_lt_of_le h.size hb.size, (below_cells hb _ _ h.size).trans h.c0, (below_cells hb _ _ h.size).trans h.c1, h.names.below hb⟩
theorem InCheck.alloc {w wr : World} {v x y : Value} {n : Nt} (h : InCheck w wr v n x y) (o : Obj) : InCheck w (wr.alloc o) v n x y := h.go ((Below.refl _ _).alloc (Nat.le_refl _) o)

theorem InNames.push0 {w wr w2 : World} {v v2 x y : Value} {l : List ByteArray} {s : ByteArray} (h : InNames w wr v l x y) (h1 : OwnS (w.heap.size + 1) w2 v2 (l ++ [s]))
    (hk : Kept (fun k => v.ownBlock = some k) wr w2) : InNames w w2 v2 (l ++ [s]) x y := by
  have hk2 : Kept (fun k => w.heap.size + 1 ≤ k) wr w2 := hk.mono (fun k hk1 hk2 => (h.own.lt k hk2).1)
  refine ⟨h1, h.below.trans (hk2.below (fun k hk => by omega) (by have := h.size; omega)), Nat.lt_of_lt_of_le h.size hk2.size, ?_, ?_⟩
  · exact hk2.cell h.size (by omega) h.c0
  · exact hk2.cell h.size (by omega) h.c1

theorem longT_no {t : Tr} (h1 : ¬ 8 < t.inn.length) (h2 : ¬ 8 < t.nt.length) (h3 : ¬ 8 < t.out.length) : longT t = false := by
  simp [longT, Tr.most]; omega
theorem longT_yes {t : Tr} (h : 8 < t.inn.length ∨ 8 < t.nt.length ∨ 8 < t.out.length) : longT t = true := by
  simp [longT, Tr.most]; omega

theorem rName_any (s : ByteArray) (w : World) (hmax : s.size ≤ 2000000) (q : Bool) (hq : nameB s.data.toList = q) :
    Calls Try.prog 39 #[.string s] w fun e w' => e = .returned (.bool q) ∧ Below w.heap.size w w' := by
  subst hq; exact rname_any s w hmax

set_option maxRecDepth 100000 in
set_option maxHeartbeats 8000000 in
theorem rcheck_any {w : World} {n : Nt} {ap at_ : Option Addr} {cp ct : Nat} (h : NetAt w (.slice ap n.places.length cp) (.slice at_ n.trans.length ct) n) (hs : ∀ s ∈ n.names, s.size ≤ 2000000) :
    Calls Try.prog 18 #[.agg #[.slice ap n.places.length cp, .slice at_ n.trans.length ct]] w fun e w' => e = .returned (.int .i64 (checkN n)) ∧ Below w.heap.size w w' := by
  obtain ⟨q, hq⟩ : ∃ q, q = checkN n := ⟨_, rfl⟩
  rw [← hq]
  unfold checkN at hq
  have Hs := Lib.hid hs
  obtain ⟨hpl, lt, hts, htr⟩ := h
  obtain ⟨np, hnp⟩ : ∃ k, k = n.places.length := ⟨_, rfl⟩
  obtain ⟨nt, hnt⟩ : ∃ k, k = n.trans.length := ⟨_, rfl⟩
  have hlong : tooLongB n = (decide (32 < np) || (decide (32 < nt) || n.trans.any longT)) := by rw [hnp, hnt]; rfl
  rw [← hnp] at hpl hq ⊢
  rw [← hnt] at htr ⊢
  have Hpl := Lib.hid hpl
  have Hts := Lib.hid hts
  have Htr := Lib.hid htr
  have Hnp := Lib.hid hnp
  have Hnt := Lib.hid hnt
  have HQ := Lib.hid hq
  clear hpl hts htr hnp hnt hs hq
  by_cases h1 : 32 < np
  · have h1i : (32 : Int) < (np : Int) := by omega
    obtain rfl : q = 5 := by rw [HQ.out, if_pos (by rw [hlong]; simp [h1])]
    clear hlong
    go_enter Try.func18, Try.ntmps18
    go_wp2
    go_ret
    exact ⟨rfl, (Below.refl _ _).alloc (Nat.le_refl _) _⟩
  have h1i : ¬ (32 : Int) < (np : Int) := by omega
  have h1b : decide ((32 : Int) < (np : Int)) = false := decide_eq_false h1i
  have h1c : decide (32 < np) = false := decide_eq_false h1
  by_cases h2 : 32 < nt
  · have h2i : (32 : Int) < (nt : Int) := by omega
    obtain rfl : q = 5 := by rw [HQ.out, if_pos (by rw [hlong]; simp [h2])]
    clear hlong
    go_enter Try.func18, Try.ntmps18
    go_wp2
    go_ret
    exact ⟨rfl, (Below.refl _ _).alloc (Nat.le_refl _) _⟩
  have h2i : ¬ (32 : Int) < (nt : Int) := by omega
  have h2b : decide ((32 : Int) < (nt : Int)) = false := decide_eq_false h2i
  have h2c : decide (32 < nt) = false := decide_eq_false h2
  have HL : Hid (tooLongB n = n.trans.any longT) := Lib.hid (by rw [hlong, h1c, h2c]; rfl)
  clear hlong
  go_enter Try.func18, Try.ntmps18
  go_wp2
  clear h1b h1c h2b h2c
  go_loopw [3, 4] (fun v i wr => ∃ k : Nat, k ≤ np ∧ i = .int .i64 k ∧ InNames w wr v ((n.places.map (·.name)).take k) (.slice ap np cp) (.slice at_ nt ct)) (fun _ i _ => np - (intOf i).toNat)
  case atStart => exact ⟨0, by omega, rfl, World.ownsRow_nil _ _ _ _, (Below.refl _ _).alloc (Nat.le_refl _) _, by simp, by go_simp, by go_simp⟩
  case round =>
    rename World => v1
    obtain ⟨k, hk, rfl, hin⟩ := hrel
    have hsz := hin.size
    have hc0 := hin.c0
    by_cases hlt : k < np
    · obtain ⟨x, hx⟩ := at_lt (l := n.places) (k := k) (by rw [← Hnp.out]; exact hlt)
      have hlti : (k : Int) < (np : Int) := by omega
      obtain ⟨b, off, rfl, hbw, e0, e1⟩ := PlsAt.at_ (PlsAt.below Hpl.out hin.below) hx
      obtain ⟨s, hs⟩ : ∃ s, s = x.name := ⟨_, rfl⟩
      rw [← hs] at e0
      have Hx : Hid ((n.places.map (·.name)).take (k + 1) = (n.places.map (·.name)).take k ++ [s]) := Lib.hid (take_at (by rw [List.getElem?_map, hx, hs]; rfl))
      obtain ⟨v2, w2, hr, ho2, hk2, hv2⟩ := run_push_str 84 s hin.own (by rw [List.length_take]; omega) (by omega)
      have Hin := Lib.hid (hin.push0 ho2 hk2)
      clear hs hx ho2 hk2 hv2 hin
      go_wp2_with (at_builtin; refine wpList_append_eq rfl (.tmp 32) (.tmp 39) 84 rfl rfl rfl hr ?_)
      go_roundw
      case rel => exact ⟨k + 1, by omega, by go_num, by rw [Hx.out]; exact Hin.out⟩
      case measure => simp [intOf]; omega
    · have hge : ¬ (k : Int) < (np : Int) := by omega
      have Hin : Hid (InNames w v1 _ (n.places.map (·.name) ++ (n.trans.map (·.name)).take 0) _ _) := Lib.hid (by
        have e : (n.places.map (·.name)).take k = n.places.map (·.name) ++ (n.trans.map (·.name)).take 0 := by
          rw [List.take_of_length_le (by rw [List.length_map, ← Hnp.out]; omega)]; simp
        rw [← e]; exact hin)
      clear hin
      go_wp2
      clear hc0
      go_loopw [3, 5] (fun v i wr => ∃ k : Nat, k ≤ nt ∧ i = .int .i64 k ∧ InNames w wr v (n.places.map (·.name) ++ (n.trans.map (·.name)).take k) (.slice ap np cp) (.slice at_ nt ct) ∧ Hid (n.trans.any longT = anyFrom longT n.trans k)) (fun _ i _ => nt - (intOf i).toNat)
      case atStart => exact ⟨0, by omega, rfl, Hin.out, Lib.hid (by rw [anyFrom_zero])⟩
      case round =>
        rename World => v2
        obtain ⟨k, hk, rfl, hin, Hk⟩ := hrel
        have hsz := hin.size
        have hc1 := hin.c1
        by_cases hlt : k < nt
        · obtain ⟨t, ht⟩ := at_lt (l := n.trans) (k := k) (by rw [← Hnt.out]; exact hlt)
          have hlti : (k : Int) < (nt : Int) := by omega
          obtain ⟨b, off, a1, c1, a2, c2, a3, c3, rfl, hbw, e0, e1, e2, e3, e4, e5, _, _, _⟩ := (Htr.out.below hin.below).at_ (i := k) (t := t) (by rw [Hts.out]; exact ht)
          have Hx : Hid ((n.trans.map (·.name)).take (k + 1) = (n.trans.map (·.name)).take k ++ [t.name]) := Lib.hid (take_at (by rw [List.getElem?_map, ht]; rfl))
          obtain ⟨v2, w2, hr, ho2, hk2, hv2⟩ := run_push_str 84 t.name (hin.own.alloc (.cells #[.string t.name, .int .i64 t.delay, .int .i64 t.prio, .slice a1 t.inn.length c1, .slice a2 t.nt.length c2, .slice a3 t.out.length c3] 46)) (by have := Hnp.out; rw [List.length_append, List.length_take, List.length_map]; omega) (by simp; have := hin.size; omega)
          have Hin := Lib.hid (hin.push ho2 hk2)
          rw [show ∀ (W : World) (o : Obj), (W.alloc o).heap.size = W.heap.size + 1 from fun W o => by simp] at hr
          have Hbel := Lib.hid hin.below
          have Ht := Lib.hid ht
          have hs1 := fun h => longT_yes (t := t) (.inl h)
          have hs2 := fun h => longT_yes (t := t) (.inr (.inl h))
          have hs3 := fun h => longT_yes (t := t) (.inr (.inr h))
          have hs4 := longT_no (t := t)
          obtain ⟨n1, hn1⟩ : ∃ n, n = t.inn.length := ⟨_, rfl⟩
          obtain ⟨n2, hn2⟩ : ∃ n, n = t.nt.length := ⟨_, rfl⟩
          obtain ⟨n3, hn3⟩ : ∃ n, n = t.out.length := ⟨_, rfl⟩
          rw [← hn1] at e3 hs1 hs4 hr
          rw [← hn2] at e4 hs2 hs4 hr
          rw [← hn3] at e5 hs3 hs4 hr
          have Hlong : Hid (longT t = true → q = 5) := Lib.hid (fun e => by rw [HQ.out, if_pos (by rw [HL.out, Hk.out]; exact anyFrom_yes Ht.out e)])
          have Hno : Hid (longT t = false → n.trans.any longT = anyFrom longT n.trans (k + 1)) := Lib.hid (fun e => by rw [Hk.out]; exact anyFrom_no Ht.out e)
          clear ht ho2 hk2 hv2 hin hn1 hn2 hn3
          by_cases g1 : 8 < n1
          · have g1i : (8 : Int) < (n1 : Int) := by omega
            obtain rfl : q = 5 := Hlong.out (hs1 g1)
            clear hs1 hs2 hs3 hs4
            go_wp2_with fail
            go_ret
            exact ⟨rfl, Hbel.out.alloc Hbel.out.size _⟩
          have g1i : ¬ (8 : Int) < (n1 : Int) := by omega
          have g1b : decide ((8 : Int) < (n1 : Int)) = false := decide_eq_false g1i
          have g1c : decide (8 < n1) = false := decide_eq_false g1
          by_cases g2 : 8 < n2
          · have g2i : (8 : Int) < (n2 : Int) := by omega
            obtain rfl : q = 5 := Hlong.out (hs2 g2)
            clear hs1 hs2 hs3 hs4
            go_wp2_with fail
            go_ret
            exact ⟨rfl, Hbel.out.alloc Hbel.out.size _⟩
          have g2i : ¬ (8 : Int) < (n2 : Int) := by omega
          have g2b : decide ((8 : Int) < (n2 : Int)) = false := decide_eq_false g2i
          have g2c : decide (8 < n2) = false := decide_eq_false g2
          by_cases g3 : 8 < n3
          · have g3i : (8 : Int) < (n3 : Int) := by omega
            obtain rfl : q = 5 := Hlong.out (hs3 g3)
            clear hs1 hs2 hs3 hs4
            go_wp2_with fail
            go_ret
            exact ⟨rfl, Hbel.out.alloc Hbel.out.size _⟩
          have g3i : ¬ (8 : Int) < (n3 : Int) := by omega
          have g3b : decide ((8 : Int) < (n3 : Int)) = false := decide_eq_false g3i
          have g3c : decide (8 < n3) = false := decide_eq_false g3
          have Hr := Lib.hid (Hno.out (hs4 g1 g2 g3))
          clear hs1 hs2 hs3 hs4
          go_wp2_with (at_builtin; refine wpList_append_eq rfl (.tmp 69) (.tmp 72) 84 rfl rfl rfl hr ?_)
          go_roundw
          case rel => exact ⟨k + 1, by omega, by go_num, by rw [Hx.out, ← List.append_assoc]; exact Hin.out, Hr⟩
          case measure => simp [intOf]; omega
        · have hge : ¬ (k : Int) < (nt : Int) := by omega
          have HQ2 : Hid (q = if namesBad [] n.names = true then 7 else if placesBad n.places = true then 3 else transErr (np : Int) n.trans) := Lib.hid (by
            have e0 : tooLongB n = false := by rw [HL.out, Hk.out]; exact anyFrom_end _ _ _ (by rw [← Hnt.out]; omega)
            rw [HQ.out, if_neg (by rw [e0]; simp)])
          have hin2 : InNames w v2 _ n.names _ _ := (by
            have e : n.names = n.places.map (·.name) ++ (n.trans.map (·.name)).take k := by
              rw [List.take_of_length_le (by rw [List.length_map, ← Hnt.out]; omega)]; rfl
            rw [e]; exact hin)
          have hic := InCheck.of hin2
          clear hin hin2
          obtain ⟨av, cv, rfl⟩ := RowAt.len hic.names
          obtain ⟨nn, hnn⟩ : ∃ m, m = n.names.length := ⟨_, rfl⟩
          have hnn64 : nn ≤ 64 := by
            have e1 := Hnp.out
            have e2 := Hnt.out
            rw [hnn, Nt.names, List.length_append, List.length_map, List.length_map]; omega
          rw [← hnn] at hic ⊢
          have Hnn := Lib.hid hnn
          have Hic := Lib.hid hic
          clear hic hnn hsz
          go_wp2
          clear hc1
          go_loopw [7] (fun i wr => ∃ k : Nat, k ≤ nn ∧ i = .int .i64 k ∧ InCheck w wr (.slice av nn cv) n (.slice ap np cp) (.slice at_ nt ct) ∧ Hid (namesBad [] n.names = namesFrom n.names k)) (fun i _ => nn - (intOf i).toNat)
          case atStart => exact ⟨0, by omega, rfl, Hic.out, Lib.hid (by rw [namesFrom_zero])⟩
          case round =>
            rename World => v3
            obtain ⟨k, hk, rfl, hin, Hk⟩ := hrel
            by_cases hlt : k < nn
            · obtain ⟨x, hx⟩ := at_lt (l := n.names) (k := k) (by rw [← Hnn.out]; exact hlt)
              have hlti : (k : Int) < (nn : Int) := by omega
              obtain ⟨b, off, rfl, hbw, e0⟩ := StrsAt.at_ hin.names hx
              have Hst := Lib.hid (namesFrom_step hx)
              have hxs := Hs.out x (List.mem_of_getElem? hx)
              have Hx := Lib.hid hx
              have Hin := Lib.hid hin
              clear hx hin
              cases hf : nameB x.data.toList with
              | false =>
                have Hr : Hid (q = 7) := Lib.hid (by rw [HQ2.out, if_pos (by rw [Hk.out, Hst.out, if_pos hf])])
                have HF := Lib.hid hf
                clear hf
                go_wp2_with (go_at_call 39; refine (rName_any _ _ hxs false HF.out).mono ?_; rintro e w' ⟨rfl, hb'⟩; have HB := Lib.hid hb'; clear hb')
                go_ret
                exact ⟨by rw [Hr.out]; rfl, (Hin.out.go HB.out).below⟩
              | true =>
                have Hst2 : Hid (namesFrom n.names k = if hasS (n.names.take k) x = true then true else namesFrom n.names (k + 1)) := Lib.hid (by rw [Hst.out, if_neg (by rw [hf]; simp)])
                have HF := Lib.hid hf
                clear hf
                go_wp2_with fail
                refine (rName_any _ _ hxs true HF.out).mono ?_
                rintro e v4 ⟨rfl, hb'⟩
                have Hin4 := Lib.hid (Hin.out.go hb')
                clear hb'
                go_wp2
                go_loopw [8] (fun i wr => ∃ j : Nat, j ≤ k ∧ i = .int .i64 j ∧ InCheck w wr (.slice (some ⟨b, off, none⟩) nn cv) n (.slice ap np cp) (.slice at_ nt ct) ∧ Hid (hasS (n.names.take k) x = anyFrom (fun a => sEq a x) (n.names.take k) j)) (fun i _ => k - (intOf i).toNat)
                case atStart => exact ⟨0, by omega, rfl, Hin4.out, Lib.hid (by rw [anyFrom_zero]; rfl)⟩
                case round =>
                  rename World => v5
                  obtain ⟨j, hj, rfl, hin, Hj⟩ := hrel
                  by_cases hjl : j < k
                  · obtain ⟨y, hy⟩ := at_lt (l := n.names) (k := j) (by rw [← Hnn.out]; omega)
                    have hjli : (j : Int) < (k : Int) := by omega
                    have hjn : (j : Int) < (nn : Int) := by omega
                    obtain ⟨b', off', he, hbw', f0⟩ := StrsAt.at_ hin.names hy
                    injection he with he
                    injection he with he1 he2 _
                    subst he1 he2
                    obtain ⟨b', off', he, _, f1⟩ := StrsAt.at_ hin.names Hx.out
                    injection he with he
                    injection he with he1 he2 _
                    subst he1 he2
                    have Hy : Hid ((n.names.take k)[j]? = some y) := Lib.hid (by rw [List.getElem?_take, if_pos hjl]; exact hy)
                    have Hi := Lib.hid hin
                    clear hy hin
                    cases hf : sEq y x with
                    | true =>
                      have Hr : Hid (q = 7) := Lib.hid (by rw [HQ2.out, if_pos (by rw [Hk.out, Hst2.out, if_pos (by rw [Hj.out]; exact anyFrom_yes Hy.out hf)])])
                      have hf2 : (y.toList == x.toList) = true := by rw [sEq_toList]; exact hf
                      clear hf
                      go_wp2
                      go_quiet (fail)
                      go_wp2
                      go_ret
                      exact ⟨by rw [Hr.out]; rfl, below_drewN' Hi.out.below _⟩
                    | false =>
                      have Hr : Hid (hasS (n.names.take k) x = anyFrom (fun a => sEq a x) (n.names.take k) (j + 1)) := Lib.hid (by rw [Hj.out]; exact anyFrom_no Hy.out hf)
                      have hf2 : (y.toList == x.toList) = false := by rw [sEq_toList]; exact hf
                      clear hf
                      go_wp2
                      go_quiet (fail)
                      go_wp2
                      go_roundw
                      case rel => exact ⟨j + 1, by omega, by go_num, Hi.out.go (below_drewN' (Below.refl _ _) _), Hr⟩
                      case measure => simp [intOf]; omega
                  · have hge : ¬ (j : Int) < (k : Int) := by omega
                    have Hr : Hid (namesBad [] n.names = namesFrom n.names (k + 1)) := Lib.hid (by
                      have e0 : hasS (n.names.take k) x = false := by rw [Hj.out]; exact anyFrom_end _ _ _ (by rw [List.length_take]; omega)
                      rw [Hk.out, Hst2.out, if_neg (by rw [e0]; simp)])
                    have Hi := Lib.hid hin
                    clear hin
                    go_wp2
                    go_roundw
                    case rel => exact ⟨k + 1, by omega, by go_num, Hi.out, Hr⟩
                    case measure => simp [intOf]; omega
            · have hge : ¬ (k : Int) < (nn : Int) := by omega
              have HQ3 : Hid (q = if placesBad n.places = true then 3 else transErr (np : Int) n.trans) := Lib.hid (by
                have e0 : namesBad [] n.names = false := by rw [Hk.out]; exact namesFrom_end _ _ (by rw [← Hnn.out]; omega)
                rw [HQ2.out, if_neg (by rw [e0]; simp)])
              have Hi := Lib.hid hin
              clear hin
              go_wp2
              go_loopw [9] (fun i wr => ∃ k : Nat, k ≤ np ∧ i = .int .i64 k ∧ InCheck w wr (.slice av nn cv) n (.slice ap np cp) (.slice at_ nt ct) ∧ Hid (placesBad n.places = anyFrom (fun p => !numB 0 p.tok) n.places k)) (fun i _ => np - (intOf i).toNat)
              case atStart => exact ⟨0, by omega, rfl, Hi.out, Lib.hid (by rw [anyFrom_zero]; rfl)⟩
              case round =>
                rename World => v6
                obtain ⟨k, hk, rfl, hin, Hk⟩ := hrel
                have hc0 := hin.c0
                by_cases hlt : k < np
                · obtain ⟨x, hx⟩ := at_lt (l := n.places) (k := k) (by rw [← Hnp.out]; exact hlt)
                  have hlti : (k : Int) < (np : Int) := by omega
                  obtain ⟨b, off, rfl, hbw, e0, e1⟩ := PlsAt.at_ (PlsAt.below Hpl.out hin.below) hx
                  have Hyes : Hid (numB 0 x.tok = false → q = 3) := Lib.hid (fun e => by rw [HQ3.out, if_pos (by rw [Hk.out]; exact anyFrom_yes hx (by rw [e]; rfl))])
                  have Hno : Hid (numB 0 x.tok = true → placesBad n.places = anyFrom (fun p => !numB 0 p.tok) n.places (k + 1)) := Lib.hid (fun e => by rw [Hk.out]; exact anyFrom_no hx (by rw [e]; rfl))
                  have Hin := Lib.hid hin
                  obtain ⟨z, hz⟩ : ∃ z, z = x.tok := ⟨_, rfl⟩
                  rw [← hz] at e1 Hyes Hno
                  clear hx hin hz
                  by_cases hy1 : z < 0
                  · have hy1b : decide (z < 0) = true := decide_eq_true hy1
                    have Hr : Hid (q = 3) := Lib.hid (Hyes.out (by simp [numB]; omega))
                    go_wp2
                    go_ret
                    exact ⟨by rw [Hr.out]; rfl, Hin.out.below⟩
                  · have hy1b : decide (z < 0) = false := decide_eq_false hy1
                    by_cases hy2 : 1000000 < z
                    · have hy2b : decide (1000000 < z) = true := decide_eq_true hy2
                      have Hr : Hid (q = 3) := Lib.hid (Hyes.out (by simp [numB]; omega))
                      go_wp2
                      go_ret
                      exact ⟨by rw [Hr.out]; rfl, Hin.out.below⟩
                    · have hy2b : decide (1000000 < z) = false := decide_eq_false hy2
                      have Hr := Lib.hid (Hno.out (by simp [numB]; omega))
                      go_wp2
                      go_roundw
                      case rel => exact ⟨k + 1, by omega, by go_num, Hin.out, Hr⟩
                      case measure => simp [intOf]; omega
                · have hge : ¬ (k : Int) < (np : Int) := by omega
                  have HQ4 : Hid (q = transFrom (np : Int) n.trans 0) := Lib.hid (by
                    have e0 : placesBad n.places = false := by rw [Hk.out]; exact anyFrom_end _ _ _ (by rw [← Hnp.out]; omega)
                    rw [HQ3.out, if_neg (by rw [e0]; simp), transFrom_zero])
                  have Hi := Lib.hid hin
                  clear hin
                  go_wp2
                  clear hc0
                  go_loopw [10] (fun i wr => ∃ k : Nat, k ≤ nt ∧ i = .int .i64 k ∧ InCheck w wr (.slice av nn cv) n (.slice ap np cp) (.slice at_ nt ct) ∧ Hid (q = transFrom (np : Int) n.trans k)) (fun i _ => nt - (intOf i).toNat)
                  case atStart => exact ⟨0, by omega, rfl, Hi.out, HQ4⟩
                  case round =>
                    rename World => v7
                    obtain ⟨k, hk, rfl, hin, Hk⟩ := hrel
                    have hc1 := hin.c1
                    have hc0 := hin.c0
                    have hsz := hin.size
                    by_cases hlt : k < nt
                    · obtain ⟨t, ht⟩ := at_lt (l := n.trans) (k := k) (by rw [← Hnt.out]; exact hlt)
                      have hlti : (k : Int) < (nt : Int) := by omega
                      obtain ⟨b, off, a1, c1, a2, c2, a3, c3, rfl, hbw, e0, e1, e2, e3, e4, e5, m1, m2, m3⟩ := (Htr.out.below hin.below).at_ (i := k) (t := t) (by rw [Hts.out]; exact ht)
                      have Hst := Lib.hid (transFrom_step (P := (np : Int)) ht)
                      have Hin := Lib.hid hin
                      have M1 := Lib.hid m1
                      have M2 := Lib.hid m2
                      have M3 := Lib.hid m3
                      have Hyes : Hid (numB 0 t.delay = false ∨ numB 0 t.prio = false → q = 3) := Lib.hid (fun e => by
                        rw [Hk.out, Hst.out, if_pos (by rcases e with e | e <;> rw [e] <;> simp)])
                      have Hno : Hid (numB 0 t.delay = true → numB 0 t.prio = true → q = if listsErr (np : Int) t.lists = 0 then transFrom (np : Int) n.trans (k + 1) else listsErr (np : Int) t.lists) := Lib.hid (fun f1 f2 => by
                        rw [Hk.out, Hst.out, if_neg (by rw [f1, f2]; simp)])
                      obtain ⟨d, hd⟩ : ∃ z, z = t.delay := ⟨_, rfl⟩
                      obtain ⟨pr, hpr⟩ : ∃ z, z = t.prio := ⟨_, rfl⟩
                      rw [← hd] at e1 Hyes Hno
                      rw [← hpr] at e2 Hyes Hno
                      clear ht hin m1 m2 m3 hd hpr
                      by_cases hy1 : d < 0
                      · have hy1b : decide (d < 0) = true := decide_eq_true hy1
                        have Hr : Hid (q = 3) := Lib.hid (Hyes.out (.inl (by simp [numB]; omega)))
                        go_wp2
                        go_ret
                        exact ⟨by rw [Hr.out]; rfl, (Hin.out.alloc _).below⟩
                      have hy1b : decide (d < 0) = false := decide_eq_false hy1
                      by_cases hy2 : 1000000 < d
                      · have hy2b : decide (1000000 < d) = true := decide_eq_true hy2
                        have Hr : Hid (q = 3) := Lib.hid (Hyes.out (.inl (by simp [numB]; omega)))
                        go_wp2
                        go_ret
                        exact ⟨by rw [Hr.out]; rfl, (Hin.out.alloc _).below⟩
                      have hy2b : decide (1000000 < d) = false := decide_eq_false hy2
                      by_cases hy3 : pr < 0
                      · have hy3b : decide (pr < 0) = true := decide_eq_true hy3
                        have Hr : Hid (q = 3) := Lib.hid (Hyes.out (.inr (by simp [numB]; omega)))
                        go_wp2
                        go_ret
                        exact ⟨by rw [Hr.out]; rfl, (Hin.out.alloc _).below⟩
                      have hy3b : decide (pr < 0) = false := decide_eq_false hy3
                      by_cases hy4 : 1000000 < pr
                      · have hy4b : decide (1000000 < pr) = true := decide_eq_true hy4
                        have Hr : Hid (q = 3) := Lib.hid (Hyes.out (.inr (by simp [numB]; omega)))
                        go_wp2
                        go_ret
                        exact ⟨by rw [Hr.out]; rfl, (Hin.out.alloc _).below⟩
                      have hy4b : decide (1000000 < pr) = false := decide_eq_false hy4
                      have Hl := Lib.hid (Hno.out (by simp [numB]; omega) (by simp [numB]; omega))
                      have Hls : Hid (∀ W : World, Below v7.heap.size v7 W → LsAt (W.alloc (.cells #[.slice a1 t.inn.length c1, .slice a2 t.nt.length c2, .slice a3 t.out.length c3] 44)) W.heap.size t.lists) := Lib.hid (by
                        intro W hW
                        have hA := (Below.refl W.heap.size W).alloc (Nat.le_refl _) (.cells #[.slice a1 t.inn.length c1, .slice a2 t.nt.length c2, .slice a3 t.out.length c3] 44)
                        exact ⟨by simp, fun k l hkl => by
                          match k, hkl with
                          | 0, hkl => cases hkl; exact ⟨a1, c1, by go_simp, (M1.out.below hW).below hA⟩
                          | 1, hkl => cases hkl; exact ⟨a2, c2, by go_simp, (M2.out.below hW).below hA⟩
                          | 2, hkl => cases hkl; exact ⟨a3, c3, by go_simp, (M3.out.below hW).below hA⟩
                          | k + 3, hkl => simp [Tr.lists] at hkl⟩)
                      replace Hls := Lib.hid (Hls.out _ ((Below.refl v7.heap.size v7).alloc (Nat.le_refl _) (.cells #[.string t.name, .int .i64 d, .int .i64 pr, .slice a1 t.inn.length c1, .slice a2 t.nt.length c2, .slice a3 t.out.length c3] 46)))
                      rw [show ∀ (W : World) (o : Obj), (W.alloc o).heap.size = W.heap.size + 1 from fun W o => by simp] at Hls
                      have Hin7 := Lib.hid ((Hin.out.alloc (.cells #[.string t.name, .int .i64 d, .int .i64 pr, .slice a1 t.inn.length c1, .slice a2 t.nt.length c2, .slice a3 t.out.length c3] 46)).alloc (.cells #[.slice a1 t.inn.length c1, .slice a2 t.nt.length c2, .slice a3 t.out.length c3] 44))
                      go_wp2
                      clear hc0 hc1
                      go_loopw [161] (fun i wr => ∃ j : Nat, j ≤ 3 ∧ i = .int .i64 j ∧ InCheck w wr (.slice av nn cv) n (.slice ap np cp) (.slice (some ⟨b, off, none⟩) nt ct) ∧ LsAt wr (v7.heap.size + 1) t.lists ∧ Hid (listsErr (np : Int) t.lists = listsFrom (np : Int) t.lists j)) (fun i _ => 3 - (intOf i).toNat)
                      case atStart => exact ⟨0, by omega, rfl, Hin7.out, Hls.out, Lib.hid (by rw [listsFrom_zero])⟩
                      case round =>
                        rename World => v8
                        obtain ⟨j, hj, rfl, hin, hls, Hj⟩ := hrel
                        have hc0 := hin.c0
                        by_cases hjl : j < 3
                        · obtain ⟨l, hl⟩ := at_lt (l := t.lists) (k := j) (by simp [Tr.lists]; omega)
                          have hjli : (j : Int) < 3 := by omega
                          obtain ⟨a, c, f0, hA⟩ := hls.2 j l hl
                          have hrw := hls.1
                          have Hstep := Lib.hid (listsFrom_step (P := (np : Int)) hl)
                          have Hin8 := Lib.hid hin
                          have Hls8 := Lib.hid hls
                          obtain ⟨m, hm⟩ : ∃ m, m = l.length := ⟨_, rfl⟩
                          rw [← hm] at f0 hA
                          have Hca := Lib.hid (rarcs_any (P := (np : Int)) hm hA)
                          obtain ⟨er, her⟩ : ∃ er, er = arcsErr (np : Int) [] l := ⟨_, rfl⟩
                          rw [← her] at Hca Hstep
                          clear hin hls hl hm hA her
                          by_cases he0 : er = 0
                          · have Hr : Hid (listsErr (np : Int) t.lists = listsFrom (np : Int) t.lists (j + 1)) := Lib.hid (by rw [Hj.out, Hstep.out, if_pos he0])
                            subst he0
                            go_wp2_with (go_at_call 40; refine Hca.out.mono ?_; rintro e w' ⟨rfl, hb'⟩; have HB := Lib.hid hb'; clear hb')
                            go_roundw
                            case rel => exact ⟨j + 1, by omega, by go_num, Hin8.out.go HB.out, Hls8.out.below HB.out, Hr⟩
                            case measure => simp [intOf]; omega
                          · have Hr : Hid (q = er) := Lib.hid (by
                              have e1 : listsErr (np : Int) t.lists = er := by rw [Hj.out, Hstep.out, if_neg he0]
                              rw [Hl.out, e1, if_neg he0])
                            have he0b : (er == 0) = false := by simpa using he0
                            have he0c : (er != 0) = true := by simpa using he0
                            go_wp2_with (go_at_call 40; refine Hca.out.mono ?_; rintro e w' ⟨rfl, hb'⟩; have HB := Lib.hid hb'; clear hb')
                            go_ret
                            exact ⟨by rw [Hr.out]; rfl, (Hin8.out.go HB.out).below⟩
                        · have hge : ¬ (j : Int) < 3 := by omega
                          have Hr : Hid (q = transFrom (np : Int) n.trans (k + 1)) := Lib.hid (by
                            have e1 : listsErr (np : Int) t.lists = 0 := by rw [Hj.out]; exact listsFrom_end _ _ (by simp [Tr.lists]; omega)
                            rw [Hl.out, if_pos e1])
                          have Hi := Lib.hid hin
                          clear hin hls
                          go_wp2
                          go_roundw
                          case rel => exact ⟨k + 1, by omega, by go_num, Hi.out, Hr⟩
                          case measure => simp [intOf]; omega
                    · have hge : ¬ (k : Int) < (nt : Int) := by omega
                      have Hr : Hid (q = 0) := Lib.hid (by rw [Hk.out]; exact transFrom_end _ _ (by rw [← Hnt.out]; omega))
                      have Hi := Lib.hid hin
                      clear hin
                      go_wp2
                      go_ret
                      exact ⟨by rw [Hr.out]; rfl, Hi.out.below⟩
end Go.Proofs.Ytpfdmmidomofdaa
