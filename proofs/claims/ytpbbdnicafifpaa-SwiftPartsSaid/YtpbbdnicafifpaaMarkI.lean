/-
  Rows of ints of the call's own: made, one more at the end, an element stored. What mark's First, Take and Put come to.
  Conditions: none beyond each theorem's own.
-/
import Derived.Test.YtpbbdnicafifpaaMarkABC
import Derived.Test.YtpbbdnicafifpaaNearIn
namespace Go.Proofs.Ytpbbdnicafifpaa
open Go.RowKit
set_option linter.unusedVariables false

theorem Try.infoI : (Try.prog.info? 3).map (fun i => (i.zero, i.size, i.bytes)) = some (some (.int .i64 0), 1, 8) := by kernel_rfl
abbrev OwnI (B : Nat) (w : World) (v : Value) (l : List Int) : Prop := w.ownsRow B 3 1 v l.length (l.flatMap intL)
def intRow (v : Value) (l : List Int) : Row := ⟨3, 1, v, l.length, l.flatMap intL⟩
theorem OwnI.at_ {B : Nat} {w : World} {v : Value} {l : List Int} (h : OwnI B w v l) : IntsAt w v l := RowAt.of_own h

/-- 'append(l, x)' -/
theorem run_push_i {B : Nat} {v : Value} {l : List Int} (ty : TypeId) (x : Int) {w : World} (h : OwnI B w v l) (hl : l.length ≤ 1000000) (hB : B ≤ w.heap.size) :
    ∃ v' w', (Builtin.append_ #[39, 39] ty #[v, .slice (some ⟨w.heap.size, 0, none⟩) 1 1]).run Try.prog (w.alloc (.cells #[.int .i64 x] 3)) = .ok v' w' ∧ OwnI B w' v' (l ++ [x]) ∧
      Kept (fun k => v.ownBlock = some k) w w' ∧ (v'.ownBlock = v.ownBlock ∨ v'.ownBlock = some (w.heap.size + 1)) := by
  obtain ⟨i0, hi0, hz0, hz1, hz2⟩ := info_parts Try.infoI
  obtain ⟨v', w', hr, h2, h3, _, h5⟩ := run_append_own_at (P := Try.prog) (w.alloc (.cells #[.int .i64 x] 3)) B 39 ty 3 i0 _ 1 8 Try.underlying39 hi0 hz0 hz1 hz2 rfl (by omega) v l.length (l.flatMap intL) (h.alloc _)
    ⟨w.heap.size, 0, none⟩ 1 1 (intL x) rfl (cell_newL w _ _) (by simp [intL, Value.oneCell']) (by unfold maxLen; omega) (by omega) (by simp; omega)
  exact ⟨v', w', hr, by rw [OwnI, List.flatMap_append, List.length_append]; simpa using h2, ((Kept.refl _ w).alloc _).grown h3 (fun _ h => h), by simpa using h5⟩

theorem flat_intL (l : List Int) : l.flatMap intL = l.map (Value.int .i64) := by
  induction l with
  | nil => rfl
  | cons x l ih => rw [List.flatMap_cons, ih]; rfl

/-- 'make([]int, m)' -/
theorem run_make_ints (m : Nat) (hm : m ≤ 1000000) (w : World) : ∃ w', (Instr.makeSlice 39 (.int .i64 (m : Int)) (.int .i64 (m : Int))).run Try.prog w = .ok (.slice (some ⟨w.heap.size, 0, none⟩) m m) w' ∧ OwnI w.heap.size w' (.slice (some ⟨w.heap.size, 0, none⟩) m m) (List.replicate m 0) ∧ Below w.heap.size w w' := by
  obtain ⟨i0, hi0, hz0, hz1, hz2⟩ := info_parts Try.infoI
  obtain ⟨w', h1, h2, h3⟩ := run_make_full (P := Try.prog) w w.heap.size 39 3 i0 _ 1 Try.underlying39 hi0 hz0 hz1 .i64 .i64 m (by rw [hz2]; omega) (by unfold maxLen; omega) (Nat.le_refl _)
  refine ⟨w', h1, ?_, ⟨h3.os, h3.tape, h3.output, h3.size, fun k hk => h3.block k hk (by simp)⟩⟩
  have e : (List.replicate m (0 : Int)).flatMap intL = (madeCells (Value.int .i64 0).cells (m * 1)).toList := by
    have : (Value.int .i64 0).cells = #[.int .i64 0] := rfl
    rw [this, toList_madeCells_one, flat_intL, List.map_replicate, Nat.mul_one]
  rw [OwnI, e, List.length_replicate]
  exact h2

section
variable {B b c n : Nat} {w w' : World} {l : List Int}
theorem OwnI.set (h : OwnI B w (.slice (some ⟨b, 0, none⟩) n c) l) (k : Nat) (z : Int) (hk : k < l.length) : OwnI B (w.setCell ⟨b, k, none⟩ (.int .i64 z)) (.slice (some ⟨b, 0, none⟩) n c) (l.set k z) ∧ Kept (fun j => j = b) w (w.setCell ⟨b, k, none⟩ (.int .i64 z)) := by
  have hn : n = l.length := by
    rcases h.2 with ⟨e, h0⟩ | ⟨r, cap, cur, e, _⟩
    · cases e
    · injection e
  subst hn
  have hA : AllOwn B w ([] ++ intRow (.slice (some ⟨b, 0, none⟩) l.length c) l :: []) := ⟨fun r hr => by rw [List.nil_append, List.mem_singleton] at hr; subst hr; exact h, by simp⟩
  obtain ⟨x, hx⟩ := at_lt hk
  have e := flat_set intL_len l k 0 x z (.int .i64 z) hx (by omega) rfl
  rw [Nat.mul_one, Nat.add_zero] at e
  have h2 := AllOwn.storeAt (r' := intRow (.slice (some ⟨b, 0, none⟩) l.length c) (l.set k z)) hA rfl k (.int .i64 z) rfl rfl rfl (by simp [intRow]) e.symm
  exact ⟨h2.1.own (intRow (.slice (some ⟨b, 0, none⟩) l.length c) (l.set k z)) (by simp), h2.2⟩
theorem OwnI.lt (h : OwnI B w (.slice (some ⟨b, 0, none⟩) n c) l) : B ≤ b ∧ b < w.heap.size := World.ownsRow.lt h b rfl
theorem OwnI.froz (h : OwnI B w (.slice (some ⟨b, 0, none⟩) n c) l) (j : Nat) : w.frozen? ⟨b, j, none⟩ = false := by
  have hn : n = l.length := by
    rcases h.2 with ⟨e, h0⟩ | ⟨r, cap, cur, e, _⟩
    · cases e
    · injection e
  subst hn
  exact World.ownsRow.frozenAt h j
theorem OwnI.cell (h : OwnI B w (.slice (some ⟨b, 0, none⟩) n c) l) {k : Nat} {z : Int} (hk : l[k]? = some z) : w.cell? ⟨b, k, none⟩ = some (.int .i64 z) := by
  have hn : n = l.length := by
    rcases h.2 with ⟨e, h0⟩ | ⟨r, cap, cur, e, _⟩
    · cases e
    · injection e
  subst hn
  obtain ⟨b', off, e, _, hc⟩ := h.at_.at_ hk
  injection e with e
  injection e with e1 e2 _
  subst e1 e2
  simpa using hc
theorem OwnI.len {v : Value} (h : OwnI B w v l) : ∃ a c, v = .slice a l.length c := own_form h
theorem OwnI.kept {S : Nat → Prop} {v : Value} (h : OwnI B w v l) (hk : Kept S w w') (hS : ∀ r, v.ownBlock = some r → ¬ S r) : OwnI B w' v l := ownS h hk hS
theorem OwnI.below {v : Value} (h : OwnI B w v l) (hb : Below w.heap.size w w') : OwnI B w' v l := ownS (S := fun _ => False) h (Kept.of_below hb) (fun _ _ e => e)
/-- a row that is not empty -/
theorem OwnI.form {v : Value} (h : OwnI B w v l) (hl : 0 < l.length) : ∃ b c, v = .slice (some ⟨b, 0, none⟩) l.length c := by
  rcases h.2 with ⟨_, h0⟩ | ⟨r, cap, cur, hv, _⟩
  · omega
  · exact ⟨r, cap, hv⟩
end

set_option maxRecDepth 100000 in
set_option maxHeartbeats 1000000 in
theorem mput_any {B b c nm p : Nat} {w : World} {m : List Int} {z n : Int} (hm : nm = m.length) (h : OwnI B w (.slice (some ⟨b, 0, none⟩) nm c) m) (hz : m[p]? = some z) (h1 : n ≤ 9223372036854775807 - max z 0) (h2 : -9223372036854775808 ≤ z + n) (h3 : -9223372036854775808 ≤ z ∧ z ≤ 9223372036854775807) (q : Bool) (hq : q = decide (z + n ≤ 1099511627776)) :
    Calls Try.prog 108 #[.slice (some ⟨b, 0, none⟩) nm c, .int .i64 p, .int .i64 n] w fun e w' => e = .returned (.bool q) ∧ OwnI B w' (.slice (some ⟨b, 0, none⟩) nm c) (m.set p (z + n)) ∧ Kept (fun k => k = b) w w' := by
  have hp : p < nm := by rw [hm]; exact lt_at hz
  have hpi : (p : Int) < (nm : Int) := by omega
  have c0 := h.cell hz
  have f0 := h.froz p
  have hlt := h.lt.2
  have Hset := Lib.hid (h.set p (z + n) (by rw [← hm]; exact hp))
  have hno : ¬ (9223372036854775807 - max z 0 : Int) < n := by omega
  clear h hm hz hlt
  go_enter Try.func108, Try.ntmps108
  go_wp2_with fail
  refine (hasInt_any _ _ _ _ hp _).mono ?_
  rintro e w' ⟨rfl, rfl⟩
  go_wp2
  go_ret
  subst hq
  exact ⟨rfl, Hset.out.1, Hset.out.2⟩

/-- the tokens of a place, less so many -/
def stepT (m : List Int) (a : Int × Int) : List Int := m.set a.1.toNat (wrap64 (getI m a.1 - a.2))
def takeTo (li : List (Int × Int)) (m : List Int) (k : Nat) : List Int := (li.take k).foldl stepT m
def takeL (li : List (Int × Int)) (m : List Int) : List Int := li.foldl stepT m
theorem takeTo_len (li : List (Int × Int)) (m : List Int) (k : Nat) : (takeTo li m k).length = m.length := by
  unfold takeTo
  generalize li.take k = l
  induction l generalizing m with
  | nil => rfl
  | cons a l ih => rw [List.foldl_cons, ih]; simp [stepT]
theorem takeTo_succ {li : List (Int × Int)} {m : List Int} {k : Nat} {a : Int × Int} (h : li[k]? = some a) : takeTo li m (k + 1) = stepT (takeTo li m k) a := by
  unfold takeTo; rw [take_at h, List.foldl_append]; rfl
theorem takeTo_all {li : List (Int × Int)} {m : List Int} {k : Nat} (h : li.length ≤ k) : takeTo li m k = takeL li m := by
  unfold takeTo takeL; rw [List.take_of_length_le h]

/-- a slice lies apart from a block -/
def OffBlock (v : Value) (b : Nat) : Prop := ∀ k, Value.inBlock v k → k ≠ b

set_option maxRecDepth 100000 in
set_option maxHeartbeats 4000000 in
theorem take_any {B b c nm : Nat} {w : World} {s : ByteArray} {d p : Int} {a1 a2 a3 : Option Addr} {n1 n2 n3 c1 c2 c3 : Nat} {m : List Int} {li : List (Int × Int)} (h1 : n1 = li.length) (hm : nm = m.length) (hI : ArcsAt w (.slice a1 n1 c1) li) (hoff : 0 < n1 → OffBlock (.slice a1 n1 c1) b) (h : OwnI B w (.slice (some ⟨b, 0, none⟩) nm c) m) (fI : Fits m.length li) :
    Calls Try.prog 87 #[trV s d p a1 n1 c1 a2 n2 c2 a3 n3 c3, .slice (some ⟨b, 0, none⟩) nm c] w fun e w' => e = .returned (.tuple #[]) ∧ OwnI B w' (.slice (some ⟨b, 0, none⟩) nm c) (takeL li m) ∧ Kept (fun k => k = b) w w' := by
  have hx1 : n1 ≤ 9223372036854775807 := by have := RowAt.max hI; omega
  have H1 := Lib.hid h1
  have Hm := Lib.hid hm
  have HI := Lib.hid hI
  have HO := Lib.hid hoff
  have H := Lib.hid h
  have FI := Lib.hid fI
  have hbw := h.lt.2
  clear h1 hm hI hoff h fI
  go_enter Try.func87, Try.ntmps87
  go_wp2
  go_loopw [9] (fun i wr => ∃ k : Nat, k ≤ n1 ∧ i = .int .i64 k ∧ OwnI B wr (.slice (some ⟨b, 0, none⟩) nm c) (takeTo li m k) ∧ Kept (fun k => k = b) w wr) (fun i _ => n1 - (intOf i).toNat)
  case atStart => exact ⟨0, by omega, rfl, H.out.below ((Below.refl _ _).alloc (Nat.le_refl _) _), (Kept.refl _ _).alloc _⟩
  case round =>
    rename World => v1
    obtain ⟨k, hk, rfl, ho, hkp⟩ := hrel
    by_cases hlt : k < n1
    · obtain ⟨⟨x, y⟩, hx⟩ := at_lt (l := li) (k := k) (by rw [← H1.out]; exact hlt)
      have hlti : (k : Int) < (n1 : Int) := by omega
      obtain ⟨b1, off, rfl, hbw1, e0, e1⟩ := ArcsAt.at_ (w := v1) (RowAt.kept HI.out hkp (fun k hk => HO.out (by omega) k hk)) hx
      obtain ⟨p', rfl, hp, z, hz, hg⟩ := FI.out.at_ hx
      obtain ⟨z', hz'⟩ := at_lt (l := takeTo li m k) (k := p') (by rw [takeTo_len]; exact hp)
      have hbv : b < v1.heap.size := ho.lt.2
      have c0 := ho.cell hz'
      have f0 := ho.froz p'
      have hpn : p' < nm := by rw [Hm.out]; exact hp
      have hpi : (p' : Int) < (nm : Int) := by omega
      have hnext : takeTo li m (k + 1) = (takeTo li m k).set p' (wrap64 (z' - y)) := by
        rw [takeTo_succ hx]; unfold stepT getI
        simp [List.getD, hz']
      have hst := ho.set p' (wrap64 (z' - y)) (by rw [takeTo_len]; exact hp)
      rw [← hnext] at hst
      have hnew : Below (v1.setCell ⟨b, p', none⟩ (.int .i64 (wrap64 (z' - y)))).heap.size (v1.setCell ⟨b, p', none⟩ (.int .i64 (wrap64 (z' - y)))) ((v1.setCell ⟨b, p', none⟩ (.int .i64 (wrap64 (z' - y)))).alloc (.cells #[.int .i64 (p' : Int), .int .i64 y] 76)).drew := ((Below.refl _ _).alloc (Nat.le_refl _) _).drew
      have Hst := Lib.hid (hst.1.below hnew)
      have Hkp := Lib.hid ((hkp.trans hst.2).trans (Kept.of_below hnew))
      clear hst hnext hnew hx hz hz' hg ho hp hkp
      go_wp2_with (go_at_call 109; refine (hasInt_any _ _ _ _ hpn _).mono ?_; rintro e w' ⟨rfl, rfl⟩)
      go_region
      go_wp2
      go_roundw
      case rel => exact ⟨k + 1, by omega, by go_num, Hst.out, Hkp.out⟩
      case measure => simp [intOf]; omega
    · have hge : ¬ (k : Int) < (n1 : Int) := by omega
      have e := takeTo_all (li := li) (m := m) (k := k) (by rw [← H1.out]; omega)
      rw [e] at ho
      have Ho := Lib.hid ho
      have Hk := Lib.hid hkp
      clear ho hkp e
      go_wp2
      go_end0
      exact ⟨rfl, Ho.out, Hk.out⟩

/-- the tokens of the first k places, then noughts -/
def firstTo (ps : List Pl) (n k : Nat) : List Int := (ps.take k).map (·.tok) ++ List.replicate (n - k) 0
theorem firstTo_len (ps : List Pl) (k : Nat) (h : k ≤ ps.length) : (firstTo ps ps.length k).length = ps.length := by simp [firstTo]; omega
theorem firstTo_succ {ps : List Pl} {k : Nat} {p : Pl} (h : ps[k]? = some p) : firstTo ps ps.length (k + 1) = (firstTo ps ps.length k).set k p.tok := by
  have hk := lt_at h
  unfold firstTo
  rw [take_at h, List.map_append, List.append_assoc]
  have e : ps.length - k = (ps.length - (k + 1)) + 1 := by omega
  rw [e, List.replicate_succ, List.set_append_right _ _ (by simp; omega)]
  simp [Nat.min_eq_left (Nat.le_of_lt hk)]

set_option maxRecDepth 100000 in
set_option maxHeartbeats 4000000 in
theorem first_any {w : World} {n : Nt} {ap : Option Addr} {vt : Value} {cp np : Nat} (hnp : np = n.places.length) (hp1 : np ≤ 1000000) (h : PlsAt w (.slice ap np cp) n.places) :
    Calls Try.prog 54 #[.agg #[.slice ap np cp, vt]] w fun e w' => ∃ b, e = .returned (.slice (some ⟨b, 0, none⟩) np np) ∧ OwnI w.heap.size w' (.slice (some ⟨b, 0, none⟩) np np) (n.places.map (·.tok)) ∧ Below w.heap.size w w' := by
  have Hnp := Lib.hid hnp
  have Hpl := Lib.hid h
  obtain ⟨w1, hmk, ho1, hb1⟩ := run_make_ints np hp1 (w.alloc (.cells #[.slice ap np cp, vt] 31))
  rw [show (w.alloc (.cells #[.slice ap np cp, vt] 31)).heap.size = w.heap.size + 1 by simp] at ho1 hmk
  have Ho1 := Lib.hid ho1
  have Hin1 := Lib.hid ((InBox.start w (.slice ap np cp) vt).go hb1)
  have d1 := Hin1.out.c0
  clear hnp h ho1 hb1
  go_enter Try.func54, Try.ntmps54
  go_wp2
  clear d1 hmk
  go_loopw [13] (fun i wr => ∃ k : Nat, k ≤ np ∧ i = .int .i64 k ∧ OwnI (w.heap.size + 1) wr (.slice (some ⟨w.heap.size + 1, 0, none⟩) np np) (firstTo n.places np k) ∧ InBox w wr (.slice ap np cp) vt) (fun i _ => np - (intOf i).toNat)
  case atStart => exact ⟨0, by omega, rfl, by have := Ho1.out; simpa [firstTo] using this, Hin1.out⟩
  case round =>
    rename World => v1
    obtain ⟨k, hk, rfl, ho, hin⟩ := hrel
    by_cases hlt : k < np
    · have hlti : (k : Int) < (np : Int) := by omega
      obtain ⟨x, hx⟩ := at_lt (l := n.places) (k := k) (by rw [← Hnp.out]; exact hlt)
      obtain ⟨b, off, rfl, hbw, e0, e1⟩ := (Hpl.out.below hin.old).at_ hx
      have hsz := hin.size
      have hos := ho.lt.2
      have f0 := ho.froz k
      obtain ⟨z0, hz0⟩ := at_lt (l := firstTo n.places np k) (k := k) (by rw [Hnp.out, firstTo_len _ _ (by rw [← Hnp.out]; exact hk), ← Hnp.out]; exact hlt)
      have c0 := ho.cell hz0
      clear hz0
      have hst := ho.set k x.tok (by rw [Hnp.out, firstTo_len _ _ (by rw [← Hnp.out]; exact hk), ← Hnp.out]; exact hlt)
      have hnext : firstTo n.places np (k + 1) = (firstTo n.places np k).set k x.tok := by rw [Hnp.out]; exact firstTo_succ hx
      rw [← hnext] at hst
      have hnew : Below (v1.setCell ⟨w.heap.size + 1, k, none⟩ (.int .i64 x.tok)).heap.size (v1.setCell ⟨w.heap.size + 1, k, none⟩ (.int .i64 x.tok)) ((v1.setCell ⟨w.heap.size + 1, k, none⟩ (.int .i64 x.tok)).alloc (.cells #[.string x.name, .int .i64 x.tok] 57)) := ((Below.refl _ _).alloc (Nat.le_refl _) _)
      have Hst := Lib.hid (hst.1.below hnew)
      have Hin : Hid (InBox w ((v1.setCell ⟨w.heap.size + 1, k, none⟩ (.int .i64 x.tok)).alloc (.cells #[.string x.name, .int .i64 x.tok] 57)) (.slice (some ⟨b, off, none⟩) np cp) vt) := Lib.hid ⟨hin.below.trans ((hst.2.trans (Kept.of_below hnew)).below (fun k e => by omega) (by have := hin.size; simp at *; omega))⟩
      clear hst hnext hnew hx ho hin
      go_wp2
      go_roundw
      case rel => exact ⟨k + 1, by omega, by go_num, Hst.out, Hin.out⟩
      case measure => simp [intOf]; omega
    · have hge : ¬ (k : Int) < (np : Int) := by omega
      have e : firstTo n.places np k = n.places.map (·.tok) := by
        unfold firstTo
        rw [List.take_of_length_le (by rw [← Hnp.out]; omega), show np - k = 0 by omega]
        simp
      rw [e] at ho
      have Ho : Hid (OwnI w.heap.size v1 (.slice (some ⟨w.heap.size + 1, 0, none⟩) np np) (n.places.map (·.tok))) := Lib.hid (own_mono ho (by omega))
      have Hi := Lib.hid hin
      clear ho hin e
      go_wp2
      go_ret
      exact ⟨_, rfl, Ho.out, Hi.out.old⟩
end Go.Proofs.Ytpbbdnicafifpaa
