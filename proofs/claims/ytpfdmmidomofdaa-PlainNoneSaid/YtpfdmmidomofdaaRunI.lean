/-
  What plain.Run comes to: the run of a net that may be; the error of one that may not.
  Conditions: none beyond each theorem's own.
-/
import Derived.Test.YtpfdmmidomofdaaRunF
import Derived.Test.YtpfdmmidomofdaaRunH
import Derived.Test.YtpfdmmidomofdaaNetHand
import Derived.Laws.ResultCell
namespace Go.Proofs.Ytpfdmmidomofdaa
open Go.RowKit
set_option linter.unusedVariables false

theorem times_inv {n : Nt} (hn : NOk n) (h : Int) : ∀ (k : Nat) (t : Int) (s : St), Inv n t s → Inv n (times n.trans h k t s).2.1 (times n.trans h k t s).1
  | 0, t, s, hI => hI
  | k + 1, t, s, hI => by
    obtain ⟨i1, i2, _⟩ := instAll_inv hn hI
    by_cases he : (instAll n.trans t s).2 = 0
    · rw [times_go he]
      split
      · rename_i hc
        exact times_inv hn h k _ _ (next_inv i1 i2 hc.1).2.1
      · exact i1
    · rw [times_err he]; exact i1
theorem runN_inv {n : Nt} (hn : NOk n) (h : Int) : Inv n (runN n h).2.1 (runN n h).1 := by
  unfold runN
  split
  · exact times_inv hn h _ _ _ (start_inv hn)
  · exact start_inv hn

theorem run_ret (W : World) (R : Nat) (v0 v1 v2 v3 x : Value) (h0 : W.cell? ⟨R, 0, none⟩ = some v0) (h1 : W.cell? ⟨R, 1, none⟩ = some v1) (h2 : W.cell? ⟨R, 2, none⟩ = some v2) (h3 : W.cell? ⟨R, 3, none⟩ = some v3) (tmps : Array Value) (ht : tmps[4]?.getD undef = .pointer (some ⟨R, 0, none⟩)) (hx : tmps[5]?.getD undef = x) :
    (results Try.f15 tmps).run Try.prog W = .ok (.tuple #[.agg #[v0, v1, v2, v3], x]) W := by
  simp [results, Try.results15, go_sem, ht, hx, h0, h1, h2, h3]

def nilS : Value := .slice none 0 0
/-- a net's box and the box of what is answered -/
structure Two9 (w wr : World) (vp vt : Value) : Prop where
  all : AllOwn w.heap.size wr [boxRow w.heap.size 31 [vp, vt], boxRow (w.heap.size + 1) 36 [nilS, nilS, nilS, .int .i64 0]]
  below : Below w.heap.size w wr
section
variable {w wr w' : World} {vp vt : Value}
theorem Two9.start (w : World) (vp vt : Value) : Two9 w ((w.alloc (.cells #[vp, vt] 31)).alloc (.cells #[nilS, nilS, nilS, .int .i64 0] 36)) vp vt := by
  have h1 := (AllOwn.nil w.heap.size w).add ((Below.refl _ _).alloc (Nat.le_refl _) _) (boxRow.new w.heap.size w 31 #[vp, vt] (Nat.le_refl _)) (fun k e => by injection e with e; subst e; exact Nat.le_refl _)
  have h2 := h1.add ((Below.refl _ _).alloc (Nat.le_refl _) _) (boxRow.new w.heap.size _ 36 #[nilS, nilS, nilS, .int .i64 0] (by simp)) (fun k e => by injection e with e; subst e; exact Nat.le_refl _)
  have hs : (w.alloc (.cells #[vp, vt] 31)).heap.size = w.heap.size + 1 := by simp
  rw [hs] at h2
  exact ⟨h2, ((Below.refl _ w).alloc (Nat.le_refl _) _).alloc (by simp) _⟩
theorem Two9.go (h : Two9 w wr vp vt) (hb : Below wr.heap.size wr w') : Two9 w w' vp vt := ⟨h.all.below hb, h.below.trans (hb.mono h.below.size)⟩
theorem Two9.net (h : Two9 w wr vp vt) : wr.cell? ⟨w.heap.size, 0, none⟩ = some vp ∧ wr.cell? ⟨w.heap.size, 1, none⟩ = some vt ∧ w.heap.size < wr.heap.size := by
  have hB := h.all.own (boxRow w.heap.size 31 [vp, vt]) (by simp)
  exact ⟨boxRow.cell hB rfl, boxRow.cell hB rfl, (boxRow.lt hB).2⟩
end

/-- the box of what is answered, beside others, is filled -/
theorem fill9 {B R : Nat} {w : World} {rows : List Row} {u0 u1 u2 u3 : Value} (h : AllOwn B w (boxRow R 36 [u0, u1, u2, u3] :: rows)) (v0 v1 v2 v3 : Value) :
    AllOwn B ((((w.setCell ⟨R, 0, none⟩ v0).setCell ⟨R, 1, none⟩ v1).setCell ⟨R, 2, none⟩ v2).setCell ⟨R, 3, none⟩ v3) (boxRow R 36 [v0, v1, v2, v3] :: rows) ∧ Kept (fun k => k = R) w ((((w.setCell ⟨R, 0, none⟩ v0).setCell ⟨R, 1, none⟩ v1).setCell ⟨R, 2, none⟩ v2).setCell ⟨R, 3, none⟩ v3) := by
  have h1 := AllOwn.store (pre := []) (b := R) (t := 36) h 0 v0
  have h2 := AllOwn.store (pre := []) (b := R) (t := 36) h1.1 1 v1
  have h3 := AllOwn.store (pre := []) (b := R) (t := 36) h2.1 2 v2
  have h4 := AllOwn.store (pre := []) (b := R) (t := 36) h3.1 3 v3
  exact ⟨h4.1, ((h1.2.trans h2.2).trans h3.2).trans h4.2⟩

set_option maxRecDepth 100000 in
set_option maxHeartbeats 4000000 in
theorem run_bad {w : World} {n : Nt} {ap at_ : Option Addr} {cp ct np nt : Nat} {h q : Int} (hnp : np = n.places.length) (hnt : nt = n.trans.length) (hnet : NetAt w (.slice ap np cp) (.slice at_ nt ct) n) (hs : ∀ s ∈ n.names, s.size ≤ 9223372036854775807) (hq : checkN n = q) (hne : q ≠ 0) :
    Calls Try.prog 15 #[.agg #[.slice ap np cp, .slice at_ nt ct], .int .i64 h] w fun e w' => e = .returned (.tuple #[resV nilS nilS nilS 0, .int .i64 q]) ∧ Below w.heap.size w w' := by
  subst hnp hnt hq
  have h0 := Two9.start w (.slice ap n.places.length cp) (.slice at_ n.trans.length ct)
  have hck := check_any (hnet.below h0.below) hs
  obtain ⟨np, hnp⟩ : ∃ k, k = n.places.length := ⟨_, rfl⟩
  obtain ⟨nt, hnt⟩ : ∃ k, k = n.trans.length := ⟨_, rfl⟩
  obtain ⟨q, hq⟩ : ∃ k, k = checkN n := ⟨_, rfl⟩
  rw [← hnp, ← hnt] at h0 hck ⊢
  rw [← hq] at hck hne ⊢
  have hqb : (q == 0) = false := by simpa using hne
  have H0 := Lib.hid h0
  have Hck := Lib.hid hck
  unfold nilS at H0 Hck
  clear h0 hck hnet hs hnp hnt hq hne
  go_enter Try.func15, Try.ntmps15
  go_wp2_with fail
  refine Hck.out.mono ?_
  rintro e w1 ⟨rfl, hb1⟩
  have h1 := H0.out.go hb1
  have hR := h1.all.own (boxRow (w.heap.size + 1) 36 [nilS, nilS, nilS, .int .i64 0]) (by simp)
  have r0 := boxRow.cell hR (j := 0) rfl
  have r1 := boxRow.cell hR (j := 1) rfl
  have r2 := boxRow.cell hR (j := 2) rfl
  have r3 := boxRow.cell hR (j := 3) rfl
  have q0 := boxRow.froz hR 0
  have q1 := boxRow.froz hR 1
  have q2 := boxRow.froz hR 2
  have q3 := boxRow.froz hR 3
  have rl := (boxRow.lt hR).2
  have hf := fill9 (h1.all.perm (List.Perm.swap _ _ _)) nilS nilS nilS (.int .i64 0)
  have hB := hf.1.own (boxRow (w.heap.size + 1) 36 [nilS, nilS, nilS, .int .i64 0]) (by simp)
  have Hrc := Lib.hid (And.intro (boxRow.cell hB (j := 0) rfl) (And.intro (boxRow.cell hB (j := 1) rfl) (And.intro (boxRow.cell hB (j := 2) rfl) (boxRow.cell hB (j := 3) rfl))))
  have HB := Lib.hid (h1.below.trans (hf.2.below (fun j e => by omega) h1.below.size))
  unfold nilS at r0 r1 r2 r3 Hrc HB
  clear h1 hR hf hB hb1 Hck H0
  go_wp2
  obtain ⟨rc0, rc1, rc2, rc3⟩ := Hrc.out
  exact bodyPost_ret (run_ret _ _ _ _ _ _ _ rc0 rc1 rc2 rc3 _ rfl rfl) rfl ⟨rfl, HB.out⟩

theorem two9_run {w : World} {vp vt : Value} {n : Nt} {W w5 : World} {bm nm : Nat} (h : Two9 w W vp vt) (hb : Below W.heap.size W w5) (ho : OwnI W.heap.size w5 (.slice (some ⟨bm, 0, none⟩) nm nm) (n.places.map (·.tok))) :
    RunAt w (w5.alloc (.cells #[vp, vt, nilS, .slice (some ⟨bm, 0, none⟩) nm nm, nilS, .int .i64 0] 81)) w5.heap.size vp vt bm nm nm 0 (start n) [boxRow (w.heap.size + 1) 36 [nilS, nilS, nilS, .int .i64 0]] := by
  have h1 := h.all.add hb (r := intRow (.slice (some ⟨bm, 0, none⟩) nm nm) (n.places.map (·.tok))) (own_mono ho h.below.size) (fun k e => by injection e with e; subst e; exact ho.lt.1)
  have hlow := h.below.trans (hb.mono h.below.size)
  have h2 := h1.add ((Below.refl _ _).alloc (Nat.le_refl _) _) (boxRow.new w.heap.size w5 81 #[vp, vt, nilS, .slice (some ⟨bm, 0, none⟩) nm nm, nilS, .int .i64 0] hlow.size) (fun k e => by injection e with e; subst e; exact Nat.le_refl _)
  have h3 := (h2.add (Below.refl _ _) (r := fiRow nilS []) (ownNil _ _ _ _) (fun k e => by cases e)).add (Below.refl _ _) (r := evRow nilS []) (ownNil _ _ _ _) (fun k e => by cases e)
  refine ⟨nilS, nilS, ?_, hlow.trans (((Below.refl _ w5).alloc (Nat.le_refl _) _).mono hlow.size)⟩
  obtain ⟨N, hN⟩ : ∃ r, r = boxRow w.heap.size 31 [vp, vt] := ⟨_, rfl⟩
  obtain ⟨R, hR⟩ : ∃ r, r = boxRow (w.heap.size + 1) 36 [nilS, nilS, nilS, .int .i64 0] := ⟨_, rfl⟩
  obtain ⟨I, hI⟩ : ∃ r, r = intRow (.slice (some ⟨bm, 0, none⟩) nm nm) (n.places.map (·.tok)) := ⟨_, rfl⟩
  obtain ⟨X, hX⟩ : ∃ r, r = boxRow w5.heap.size 81 [vp, vt, nilS, .slice (some ⟨bm, 0, none⟩) nm nm, nilS, .int .i64 0] := ⟨_, rfl⟩
  replace h3 : AllOwn w.heap.size (w5.alloc (.cells #[vp, vt, nilS, .slice (some ⟨bm, 0, none⟩) nm nm, nilS, .int .i64 0] 81)) [N, R, I, X, fiRow nilS [], evRow nilS []] := by subst hN hR hI hX; exact h3
  have h4 : AllOwn w.heap.size (w5.alloc (.cells #[vp, vt, nilS, .slice (some ⟨bm, 0, none⟩) nm nm, nilS, .int .i64 0] 81)) [X, fiRow nilS [], I, evRow nilS [], R] := by
    refine (h3.sub (List.sublist_cons_self _ _)).perm ?_
    refine List.Perm.trans (l₂ := [I, X, fiRow nilS [], evRow nilS [], R]) ?_ ?_
    · exact (List.perm_append_comm (l₁ := [R]) (l₂ := [I, X, fiRow nilS [], evRow nilS []]))
    · refine List.Perm.trans (List.Perm.swap X I _) (List.Perm.cons _ (List.Perm.swap (fiRow nilS []) I _))
  subst hN hR hI hX
  exact h4

/-- the same where the run's box was made ahead of its tokens -/
theorem two9_run2 {w : World} {vp vt : Value} {n : Nt} {W w5 : World} {bm nm : Nat} (h : Two9 w W vp vt) (hb : Below (W.alloc (.cells #[nilS, nilS, nilS, nilS, nilS, .int .i64 0] 81)).heap.size (W.alloc (.cells #[nilS, nilS, nilS, nilS, nilS, .int .i64 0] 81)) w5) (ho : OwnI (W.alloc (.cells #[nilS, nilS, nilS, nilS, nilS, .int .i64 0] 81)).heap.size w5 (.slice (some ⟨bm, 0, none⟩) nm nm) (n.places.map (·.tok))) :
    RunAt w ((((((w5.setCell ⟨W.heap.size, 0, none⟩ vp).setCell ⟨W.heap.size, 1, none⟩ vt).setCell ⟨W.heap.size, 2, none⟩ nilS).setCell ⟨W.heap.size, 3, none⟩ (.slice (some ⟨bm, 0, none⟩) nm nm)).setCell ⟨W.heap.size, 4, none⟩ nilS).setCell ⟨W.heap.size, 5, none⟩ (.int .i64 0)) W.heap.size vp vt bm nm nm 0 (start n) [boxRow (w.heap.size + 1) 36 [nilS, nilS, nilS, .int .i64 0]] := by
  have h1 := h.all.add ((Below.refl _ _).alloc (Nat.le_refl _) _) (boxRow.new w.heap.size W 81 #[nilS, nilS, nilS, nilS, nilS, .int .i64 0] h.below.size) (fun k e => by injection e with e; subst e; exact Nat.le_refl _)
  have hlow0 : Below w.heap.size w (W.alloc (.cells #[nilS, nilS, nilS, nilS, nilS, .int .i64 0] 81)) := h.below.trans (((Below.refl _ W).alloc (Nat.le_refl _) _).mono h.below.size)
  have h2 := h1.add hb (r := intRow (.slice (some ⟨bm, 0, none⟩) nm nm) (n.places.map (·.tok))) (own_mono ho hlow0.size) (fun k e => by injection e with e; subst e; exact ho.lt.1)
  have hlow := hlow0.trans (hb.mono hlow0.size)
  have h3 := (h2.add (Below.refl _ _) (r := fiRow nilS []) (ownNil _ _ _ _) (fun k e => by cases e)).add (Below.refl _ _) (r := evRow nilS []) (ownNil _ _ _ _) (fun k e => by cases e)
  have h4 : AllOwn w.heap.size w5 [boxRow W.heap.size 81 [nilS, nilS, nilS, nilS, nilS, .int .i64 0], fiRow nilS [], intRow (.slice (some ⟨bm, 0, none⟩) nm nm) (n.places.map (·.tok)), evRow nilS [], boxRow (w.heap.size + 1) 36 [nilS, nilS, nilS, .int .i64 0]] := by
    obtain ⟨N, hN⟩ : ∃ r, r = boxRow w.heap.size 31 [vp, vt] := ⟨_, rfl⟩
    obtain ⟨R, hR⟩ : ∃ r, r = boxRow (w.heap.size + 1) 36 [nilS, nilS, nilS, .int .i64 0] := ⟨_, rfl⟩
    obtain ⟨I, hI⟩ : ∃ r, r = intRow (.slice (some ⟨bm, 0, none⟩) nm nm) (n.places.map (·.tok)) := ⟨_, rfl⟩
    obtain ⟨X, hX⟩ : ∃ r, r = boxRow W.heap.size 81 [nilS, nilS, nilS, nilS, nilS, .int .i64 0] := ⟨_, rfl⟩
    replace h3 : AllOwn w.heap.size w5 [N, R, X, I, fiRow nilS [], evRow nilS []] := by subst hN hR hI hX; exact h3
    have h4 : AllOwn w.heap.size w5 [X, fiRow nilS [], I, evRow nilS [], R] := by
      refine (h3.sub (List.sublist_cons_self _ _)).perm ?_
      refine List.Perm.trans (l₂ := [X, I, fiRow nilS [], evRow nilS [], R]) ?_ ?_
      · exact (List.perm_append_comm (l₁ := [R]) (l₂ := [X, I, fiRow nilS [], evRow nilS []]))
      · exact List.Perm.cons _ (List.Perm.swap (fiRow nilS []) I _)
    subst hN hR hI hX
    exact h4
  have s0 := AllOwn.store (pre := []) (b := W.heap.size) (t := 81) h4 0 vp
  have s1 := AllOwn.store (pre := []) (b := W.heap.size) (t := 81) s0.1 1 vt
  have s2 := AllOwn.store (pre := []) (b := W.heap.size) (t := 81) s1.1 2 nilS
  have s3 := AllOwn.store (pre := []) (b := W.heap.size) (t := 81) s2.1 3 (.slice (some ⟨bm, 0, none⟩) nm nm)
  have s4 := AllOwn.store (pre := []) (b := W.heap.size) (t := 81) s3.1 4 nilS
  have s5 := AllOwn.store (pre := []) (b := W.heap.size) (t := 81) s4.1 5 (.int .i64 0)
  have hk := ((((s0.2.trans s1.2).trans s2.2).trans s3.2).trans s4.2).trans s5.2
  exact ⟨nilS, nilS, s5.1, hlow.trans (hk.below (fun j e => by subst e; exact h.below.size) hlow.size)⟩

set_option maxRecDepth 100000 in
set_option maxHeartbeats 4000000 in
theorem run_any {w : World} {n : Nt} {ap at_ : Option Addr} {cp ct np nt : Nat} {h : Int} (hnp : np = n.places.length) (hnt : nt = n.trans.length) (hnet : NetAt w (.slice ap np cp) (.slice at_ nt ct) n) (hs : ∀ s ∈ n.names, s.size ≤ 9223372036854775807) (hq : checkN n = 0) :
    Calls Try.prog 15 #[.agg #[.slice ap np cp, .slice at_ nt ct], .int .i64 h] w fun e w' => ∃ al nl cl bm cm bw nw, e = .returned (.tuple #[resV (.slice al nl cl) (.slice (some ⟨bm, 0, none⟩) np cm) (.slice (some ⟨bw, 0, none⟩) nw nw) (runN n h).2.1, .int .i64 (runN n h).2.2]) ∧ nl = (runN n h).1.log.length ∧ nw = np ∧ ResAt w' (.slice al nl cl) (.slice (some ⟨bm, 0, none⟩) np cm) (.slice (some ⟨bw, 0, none⟩) nw nw) (runN n h).1 ∧ Below w.heap.size w w' := by
  have hn := checkN_nok hq
  obtain ⟨A, hA⟩ : ∃ A, A = runN n h := ⟨_, rfl⟩
  have HI : Hid (Inv n A.2.1 A.1) := Lib.hid (by rw [hA]; exact runN_inv hn h)
  rw [← hA]
  obtain ⟨u, tt, er⟩ := A
  simp only at HI ⊢
  have HA := Lib.hid hA
  clear hA
  have hn32 : np ≤ 1000000 := by have := hn.pl; omega
  have h0 := Two9.start w (.slice ap np cp) (.slice at_ nt ct)
  have hck := check_any (n := n) (ap := ap) (at_ := at_) (cp := cp) (ct := ct) (by rw [← hnp, ← hnt]; exact hnet.below h0.below) hs
  rw [← hnp, ← hnt, hq] at hck
  have HN := Lib.hid hn
  have Hnp := Lib.hid hnp
  have Hnt := Lib.hid hnt
  have Hnet := Lib.hid hnet
  have H0 := Lib.hid h0
  have Hck := Lib.hid hck
  unfold nilS at Hck
  clear h0 hck hnet hs hnp hnt hq hn
  go_enter Try.func15, Try.ntmps15
  go_wp2_with fail
  refine Hck.out.mono ?_
  rintro e w1 ⟨rfl, hb1⟩
  have h1 := H0.out.go hb1
  obtain ⟨n0, n1, nl⟩ := h1.net
  have hd1 : Below w1.heap.size w1 w1.drew := (Below.refl _ _).drew
  have hd2 : Below w1.heap.size w1 (w1.drew.alloc (.cells #[nilS, nilS, nilS, nilS, nilS, .int .i64 0] 81)) := hd1.alloc (by simp) _
  have HF := Lib.hid (fun (W : World) (hW : Below w1.heap.size w1 W) => (first_any (n := n) (vt := .slice at_ nt ct) Hnp.out hn32 (Hnet.out.below (h1.below.trans (hW.mono h1.below.size))).1).mono (R' := fun e w' => ∃ b, e = .returned (.slice (some ⟨b, 0, none⟩) np np) ∧ OwnI W.heap.size w' (.slice (some ⟨b, 0, none⟩) np np) (n.places.map (·.tok)) ∧ Below W.heap.size W w' ∧ Below w1.heap.size w1 w') (fun e w' hh => by obtain ⟨b, a1, a2, a3⟩ := hh; exact ⟨b, a1, a2, a3, hW.trans (a3.mono hW.size)⟩))
  have H1 := Lib.hid h1
  have Hd1 := Lib.hid hd1
  have Hd2 := Lib.hid hd2
  clear h1 hb1 hd1 hd2 Hck H0
  go_upto_region 4 with (fail)
  go_cut [7] from 15 to 18 (fun s7 wc => ∃ b bm, s7 = .pointer (some ⟨b, 0, none⟩) ∧ RunAt w wc b (.slice ap np cp) (.slice at_ nt ct) bm np np 0 (start n) [boxRow (w.heap.size + 1) 36 [nilS, nilS, nilS, .int .i64 0]])
  case first =>
    go_region_law (first | (go_simp; go_at_call 34; refine (HF.out _ (by first | exact Hd1.out | exact Hd2.out)).mono ?_; rintro e w5 ⟨bm, rfl, ho5, hb5, hb6⟩; have m0 := (below_cells hb6 w.heap.size 0 nl).trans n0; have m1 := (below_cells hb6 w.heap.size 1 nl).trans n1; have m2 := Nat.lt_of_lt_of_le nl hb6.size; have HO5 := Lib.hid ho5; have HB5 := Lib.hid hb5; have rc := fun (j : Nat) hj => below_cells hb5 w1.heap.size j hj; have rz := fun (j : Nat) hj => World.frozen?_of_block (a := ⟨w1.heap.size, j, none⟩) (hb5.block w1.heap.size hj); have rs := hb5.size; simp at rs; clear ho5 hb5 hb6))
    all_goals
      go_wp2
      go_meet
      case rel =>
        first
          | (refine ⟨w5.heap.size, bm, rfl, ?_⟩; exact two9_run (n := n) (W := w1.drew) (H1.out.go (Below.refl _ _).drew) HB5.out HO5.out)
          | (refine ⟨w1.heap.size, bm, rfl, ?_⟩; exact two9_run2 (n := n) (W := w1.drew) (H1.out.go (Below.refl _ _).drew) HB5.out HO5.out)
  case rest =>
    rename World => w2
    obtain ⟨b, bm, rfl, h2⟩ := hcut
    clear n0 n1 nl H1 Hd1 Hd2 HF
    have hut := upTo_any (h := h) HN.out Hnp.out Hnp.out Hnt.out Hnet.out h2
    rw [← HA.out] at hut
    clear h2
    go_wp2_with fail
    refine hut.mono ?_
    rintro e w3 ⟨rfl, h3⟩
    have hre := result_any HN.out HI.out (Hnp.out.trans HI.out.len.symm) h3
    clear hut
    go_wp2_with fail
    refine hre.mono ?_
    rintro e w4 ⟨al, cl, bw, rfl, hc2, how, hb4⟩
    have h4 := h3.add hb4 (r := intRow (.slice (some ⟨bw, 0, none⟩) np np) (wayL u.m.length u.q)) (own_mono how h3.low.size) (fun k e => by injection e with e; subst e; exact how.lt.1)
    obtain ⟨vl, vq, hall, hlow⟩ := h4
    have hBr := hall.own (boxRow b 81 (runCs (.slice ap np cp) (.slice at_ nt ct) vl (.slice (some ⟨bm, 0, none⟩) np np) vq tt)) (by simp)
    have ev : vl = .slice al u.log.length cl := by
      have e1 : w4.cell? ⟨b, 2, none⟩ = some vl := boxRow.cell hBr rfl
      have e2 := (below_cells hb4 b 2 h3.cells.2.2.2.2.1).trans hc2
      rw [e1] at e2
      injection e2
    subst ev
    obtain ⟨RB, hRB⟩ : ∃ r, r = boxRow b 81 (runCs (.slice ap np cp) (.slice at_ nt ct) (.slice al u.log.length cl) (.slice (some ⟨bm, 0, none⟩) np np) vq tt) := ⟨_, rfl⟩
    have h5 : AllOwn w.heap.size w4 [boxRow (w.heap.size + 1) 36 [nilS, nilS, nilS, .int .i64 0], fiRow (.slice al u.log.length cl) u.log, intRow (.slice (some ⟨bm, 0, none⟩) np np) u.m, intRow (.slice (some ⟨bw, 0, none⟩) np np) (wayL u.m.length u.q)] := by
      have h6 := (hall.sub (rs' := [fiRow (.slice al u.log.length cl) u.log, intRow (.slice (some ⟨bm, 0, none⟩) np np) u.m] ++ [boxRow (w.heap.size + 1) 36 [nilS, nilS, nilS, .int .i64 0], intRow (.slice (some ⟨bw, 0, none⟩) np np) (wayL u.m.length u.q)]) (by
        refine List.Sublist.cons _ ?_
        refine List.Sublist.cons_cons _ (List.Sublist.cons_cons _ (List.Sublist.cons _ ?_))
        exact List.Sublist.refl _))
      refine h6.perm ?_
      exact (List.perm_append_comm (l₁ := [fiRow (.slice al u.log.length cl) u.log, intRow (.slice (some ⟨bm, 0, none⟩) np np) u.m]) (l₂ := [boxRow (w.heap.size + 1) 36 [nilS, nilS, nilS, .int .i64 0]])).append_right [intRow (.slice (some ⟨bw, 0, none⟩) np np) (wayL u.m.length u.q)]
    have hR := h5.own (boxRow (w.heap.size + 1) 36 [nilS, nilS, nilS, .int .i64 0]) (by simp)
    have r0 := boxRow.cell hR (j := 0) rfl
    have r1 := boxRow.cell hR (j := 1) rfl
    have r2 := boxRow.cell hR (j := 2) rfl
    have r3 := boxRow.cell hR (j := 3) rfl
    have q0 := boxRow.froz hR 0
    have q1 := boxRow.froz hR 1
    have q2 := boxRow.froz hR 2
    have q3 := boxRow.froz hR 3
    have rl := (boxRow.lt hR).2
    have hf := fill9 h5 (.slice al u.log.length cl) (.slice (some ⟨bm, 0, none⟩) np np) (.slice (some ⟨bw, 0, none⟩) np np) (.int .i64 tt)
    have hB := hf.1.own (boxRow (w.heap.size + 1) 36 [.slice al u.log.length cl, .slice (some ⟨bm, 0, none⟩) np np, .slice (some ⟨bw, 0, none⟩) np np, .int .i64 tt]) (by simp)
    have Hrc := Lib.hid (And.intro (boxRow.cell hB (j := 0) rfl) (And.intro (boxRow.cell hB (j := 1) rfl) (And.intro (boxRow.cell hB (j := 2) rfl) (boxRow.cell hB (j := 3) rfl))))
    have HB := Lib.hid (hlow.trans (hf.2.below (fun j e => by omega) hlow.size))
    have HRes := Lib.hid (And.intro (hf.1.own (fiRow (.slice al u.log.length cl) u.log) (by simp)) (And.intro (hf.1.own (intRow (.slice (some ⟨bm, 0, none⟩) np np) u.m) (by simp)) (hf.1.own (intRow (.slice (some ⟨bw, 0, none⟩) np np) (wayL u.m.length u.q)) (by simp))))
    obtain ⟨ll, hll⟩ : ∃ k, k = u.log.length := ⟨_, rfl⟩
    rw [← hll] at Hrc HB HRes ⊢
    unfold nilS at r0 r1 r2 r3
    have Hll := Lib.hid hll
    clear h3 hre hc2 how hb4 hall hlow hBr hRB RB h5 hR hf hB hll
    simp only [resV]
    go_wp2
    obtain ⟨rc0, rc1, rc2, rc3⟩ := Hrc.out
    have hres := HRes.out
    have hfin : ResAt _ (.slice al ll cl) (.slice (some ⟨bm, 0, none⟩) np np) (.slice (some ⟨bw, 0, none⟩) np np) u := And.intro (RowAt.of_own hres.1) (And.intro (OwnI.at_ hres.2.1) (OwnI.at_ hres.2.2))
    try simp only [Exit.inBlock, Exit.then]
    refine bodyPost_ret (run_ret _ _ _ _ _ _ _ rc0 rc1 rc2 rc3 _ rfl rfl) rfl ?_
    exact ⟨al, ll, cl, bm, np, bw, np, rfl, Hll.out, rfl, hfin, HB.out⟩
end Go.Proofs.Ytpfdmmidomofdaa
