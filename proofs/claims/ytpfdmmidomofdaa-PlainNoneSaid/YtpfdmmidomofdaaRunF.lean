/-
  What result comes to: the firings, the tokens, how many are under way to each place, the time.
  Conditions: none beyond each theorem's own.
-/
import Derived.Test.YtpfdmmidomofdaaRunD
import Derived.Deep.CutRange
namespace Go.Proofs.Ytpfdmmidomofdaa
open Go.RowKit
set_option linter.unusedVariables false

def resV (vl vm vw : Value) (t : Int) : Value := .agg #[vl, vm, vw, .int .i64 t]
/-- what a run answers -/
def ResAt (w : World) (vl vm vw : Value) (s : St) : Prop := FisAt w vl s.log ∧ IntsAt w vm s.m ∧ IntsAt w vw (wayL s.m.length s.q)

theorem wayL_take {P : Nat} {q : List Ev} {k : Nat} {e : Ev} (h : q[k]? = some e) : wayL P (q.take (k + 1)) = addE (wayL P (q.take k)) e := by
  unfold wayL; rw [take_at h, List.foldl_append]; rfl
theorem wayL_len (P : Nat) (q : List Ev) : (wayL P q).length = P := by unfold wayL; rw [foldE_len]; simp
theorem pos_zeros (P : Nat) : Pos (List.replicate P (0 : Int)) := fun z hz => by rw [List.eq_of_mem_replicate hz]; exact Int.le_refl _
theorem tot_zeros : ∀ P : Nat, tot (List.replicate P (0 : Int)) = 0
  | 0 => rfl
  | P + 1 => by rw [List.replicate_succ, tot, tot_zeros P]; rfl
theorem way_next {n : Nt} {t : Int} {s : St} (h : Inv n t s) {k : Nat} {e : Ev} (hk : s.q[k]? = some e) :
    ∃ p : Nat, e.place = p ∧ p < s.m.length ∧ ∃ z, (wayL s.m.length (s.q.take k))[p]? = some z ∧ 0 ≤ z ∧ 1 ≤ e.n ∧ z + e.n ≤ 1099511627776 ∧ wayL s.m.length (s.q.take (k + 1)) = (wayL s.m.length (s.q.take k)).set p (z + e.n) := by
  have hok := h.evs e (List.mem_of_getElem? hk)
  have hd1 : ∀ x ∈ s.q.take k, EvOk (List.replicate s.m.length (0 : Int)).length x := fun x hx => by rw [List.length_replicate, h.len]; exact h.evs x (List.mem_of_mem_take hx)
  have hl := wayL_len s.m.length (s.q.take k)
  have hp1 : e.place.toNat < s.m.length := by rw [h.len]; have := hok.1; omega
  have hz := getI_some (m := wayL s.m.length (s.q.take k)) (x := e.place) hok.1.1 (by rw [hl, h.len]; exact hok.1.2)
  have hpos : Pos (wayL s.m.length (s.q.take k)) := foldE_pos _ _ (pos_zeros _) hd1
  refine ⟨e.place.toNat, by have := hok.1; omega, hp1, _, hz, hpos.at_ hz, hok.2, ?_, ?_⟩
  · have h1 := le_tot _ _ _ hpos hz
    have h2 : tot (wayL s.m.length (s.q.take k)) = tot (List.replicate s.m.length (0 : Int)) + totE (s.q.take k) := foldE_tot _ _ hd1
    rw [tot_zeros] at h2
    have h5 : totE s.q = totE (s.q.take k) + (e.n + totE (s.q.drop (k + 1))) := by
      conv => lhs; rw [(List.take_append_drop k s.q).symm, drop_at hk, totE_append]
      rfl
    have h6 : 0 ≤ totE (s.q.drop (k + 1)) := totE_pos _ (fun x hx => h.evs x (List.mem_of_mem_drop hx))
    have h7 := h.sum
    have h8 := h.ll
    have h9 := tot_pos _ h.pos
    omega
  · rw [wayL_take hk]; rfl

theorem res_ret (W : World) (R : Nat) (v0 v1 v2 v3 : Value) (h0 : W.cell? ⟨R, 0, none⟩ = some v0) (h1 : W.cell? ⟨R, 1, none⟩ = some v1) (h2 : W.cell? ⟨R, 2, none⟩ = some v2) (h3 : W.cell? ⟨R, 3, none⟩ = some v3) (tmps : Array Value) (ht : tmps[2]?.getD undef = .pointer (some ⟨R, 0, none⟩)) :
    (results Try.f36 tmps).run Try.prog W = .ok (.agg #[v0, v1, v2, v3]) W := by
  simp [results, Try.results36, go_sem, ht, h0, h1, h2, h3]

set_option maxRecDepth 100000 in
set_option maxHeartbeats 4000000 in
theorem result_any {n : Nt} {w0 w : World} {b bm nm cm : Nat} {vp vt : Value} {t : Int} {s : St} {more : List Row} (hn : NOk n) (hI : Inv n t s) (hnm : nm = s.m.length) (h : RunAt w0 w b vp vt bm nm cm t s more) :
    Calls Try.prog 36 #[.pointer (some ⟨b, 0, none⟩)] w fun e w' => ∃ al cl bw, e = .returned (resV (.slice al s.log.length cl) (.slice (some ⟨bm, 0, none⟩) nm cm) (.slice (some ⟨bw, 0, none⟩) nm nm) t) ∧ w.cell? ⟨b, 2, none⟩ = some (.slice al s.log.length cl) ∧ OwnI w.heap.size w' (.slice (some ⟨bw, 0, none⟩) nm nm) (wayL s.m.length s.q) ∧ Below w.heap.size w w' := by
  obtain ⟨al, cl, k2, hF⟩ := h.log
  obtain ⟨aq, cq, k4, hE⟩ := h.way
  obtain ⟨_, _, k3, k5, kb, _⟩ := h.cells
  have hM := h.ints
  have hql := hI.ql
  have hll := hI.ll
  have hP := hI.len
  obtain ⟨nq, hnq⟩ : ∃ k, k = s.q.length := ⟨_, rfl⟩
  obtain ⟨ll, hlle⟩ : ∃ k, k = s.log.length := ⟨_, rfl⟩
  have hmax : nq ≤ 16000 := by omega
  have hmaxl : ll ≤ 2000 := by omega
  rw [← hnq] at k4
  rw [← hlle] at k2 ⊢
  have K2 := Lib.hid k2
  have HE : Hid (EvsAt w (.slice aq nq cq) s.q) := Lib.hid (by rw [hnq]; exact RowAt.of_own hE)
  have hnp : nm ≤ 1000000 := by have := hn.pl; omega
  have HI := Lib.hid hI
  have Hnq := Lib.hid hnq
  have Hnm := Lib.hid hnm
  obtain ⟨w1, hmk, ho1, hb1⟩ := run_make_ints nm hnp (w.alloc (.cells #[.slice none 0 0, .slice none 0 0, .slice none 0 0, .int .i64 0] 36))
  rw [show (w.alloc (.cells #[.slice none 0 0, .slice none 0 0, .slice none 0 0, .int .i64 0] 36)).heap.size = w.heap.size + 1 by simp] at ho1 hmk hb1
  have hall : AllOwn w.heap.size w1 [boxRow w.heap.size 36 [.slice none 0 0, .slice none 0 0, .slice none 0 0, .int .i64 0], intRow (.slice (some ⟨w.heap.size + 1, 0, none⟩) nm nm) (wayL s.m.length (s.q.take 0))] := by
    have h1 := (AllOwn.nil w.heap.size w).add ((Below.refl _ _).alloc (Nat.le_refl _) _) (boxRow.new w.heap.size w 36 #[.slice none 0 0, .slice none 0 0, .slice none 0 0, .int .i64 0] (Nat.le_refl _)) (fun k e => by injection e with e; subst e; exact Nat.le_refl _)
    have h2 := h1.add (by simpa using hb1) (r := intRow (.slice (some ⟨w.heap.size + 1, 0, none⟩) nm nm) (wayL s.m.length (s.q.take 0))) (own_mono (by rw [List.take_zero, hnm] at *; exact ho1) (by omega)) (fun k e => by injection e with e; subst e; simp)
    exact h2
  have hbw : Below w.heap.size w w1 := ((Below.refl _ _).alloc (Nat.le_refl _) _).trans (hb1.mono (by omega))
  have d4 : w1.cell? ⟨b, 4, none⟩ = some (.slice aq nq cq) := (below_cells hbw b 4 kb).trans k4
  have Hall := Lib.hid hall
  have Hbw := Lib.hid hbw
  have hbn : ¬ w.heap.size = b := by omega
  clear hI hn hnm h hF hE hM hql hll hP hnq hlle hnp ho1 hall hb1 hbw
  go_enter Try.func36, Try.ntmps36
  go_wp2
  clear d4 hmk
  go_loopw [17] (fun i wr => ∃ k : Nat, k ≤ nq ∧ i = .int .i64 k ∧ AllOwn w.heap.size wr [boxRow w.heap.size 36 [.slice none 0 0, .slice none 0 0, .slice none 0 0, .int .i64 0], intRow (.slice (some ⟨w.heap.size + 1, 0, none⟩) nm nm) (wayL s.m.length (s.q.take k))] ∧ Below w.heap.size w wr) (fun i _ => nq - (intOf i).toNat)
  case atStart => exact ⟨0, by omega, rfl, Hall.out, Hbw.out⟩
  case round =>
    rename World => v1
    obtain ⟨k, hk, rfl, hal, hbl⟩ := hrel
    by_cases hlt : k < nq
    · obtain ⟨x, hx⟩ := at_lt (l := s.q) (k := k) (by rw [← Hnq.out]; exact hlt)
      have hlti : (k : Int) < (nq : Int) := by omega
      obtain ⟨g, off, rfl, hgw, e0, e1, e2⟩ := (HE.out.below hbl).at_ hx
      obtain ⟨p, hp0, hpl, z, hz, hz0, hn1, hz1, hset⟩ := way_next HI.out hx
      obtain ⟨xt, xp, xn⟩ := x
      simp only at e0 e1 e2 hp0 hn1 hz1 hset
      subst hp0
      have ho : OwnI w.heap.size v1 (.slice (some ⟨w.heap.size + 1, 0, none⟩) nm nm) (wayL s.m.length (s.q.take k)) := hal.own (intRow (.slice (some ⟨w.heap.size + 1, 0, none⟩) nm nm) (wayL s.m.length (s.q.take k))) (by simp)
      have hbv := ho.lt.2
      have c0 := ho.cell hz
      have f0 := ho.froz p
      have hpn : p < nm := by rw [Hnm.out]; exact hpl
      have hpi : (p : Int) < (nm : Int) := by omega
      have hst := ho.set p (wrap64 (z + xn)) (by rw [wayL_len]; exact hpl)
      rw [show (wayL s.m.length (s.q.take k)).set p (wrap64 (z + xn)) = wayL s.m.length (s.q.take (k + 1)) by rw [hset, IntWalk.wrap64_in _ (by omega)]] at hst
      have hA2 := AllOwn.swap (pre := [boxRow w.heap.size 36 [.slice none 0 0, .slice none 0 0, .slice none 0 0, .int .i64 0]]) (r := intRow (.slice (some ⟨w.heap.size + 1, 0, none⟩) nm nm) (wayL s.m.length (s.q.take k))) (r' := intRow (.slice (some ⟨w.heap.size + 1, 0, none⟩) nm nm) (wayL s.m.length (s.q.take (k + 1)))) (post := []) hal (hst.2.mono (fun j _ e => by subst e; rfl)) hst.1 (.inl rfl)
      have hb2 := hbl.trans (hst.2.below (fun j e => by omega) hbl.size)
      have hnew : Below (v1.setCell ⟨w.heap.size + 1, p, none⟩ (.int .i64 (wrap64 (z + xn)))).heap.size (v1.setCell ⟨w.heap.size + 1, p, none⟩ (.int .i64 (wrap64 (z + xn)))) ((v1.setCell ⟨w.heap.size + 1, p, none⟩ (.int .i64 (wrap64 (z + xn)))).alloc (.cells #[.int .i64 xt, .int .i64 (p : Int), .int .i64 xn] 65)).drew := ((Below.refl _ _).alloc (Nat.le_refl _) _).drew
      have HA2 := Lib.hid (hA2.below hnew)
      have HB2 := Lib.hid (hb2.trans (hnew.mono hb2.size))
      clear hx hz hz0 hz1 hn1 hset ho hst hA2 hb2 hnew hal hbl
      go_wp2
      go_region
      go_wp2
      go_roundw
      case rel => exact ⟨k + 1, by omega, by go_num, HA2.out, HB2.out⟩
      case measure => simp [intOf]; omega
    · have hge : ¬ (k : Int) < (nq : Int) := by omega
      rw [List.take_of_length_le (by rw [← Hnq.out]; omega)] at hal
      have d2 : v1.cell? ⟨b, 2, none⟩ = some (.slice al ll cl) := (below_cells hbl b 2 kb).trans k2
      have d3 : v1.cell? ⟨b, 3, none⟩ = some (.slice (some ⟨bm, 0, none⟩) nm cm) := (below_cells hbl b 3 kb).trans k3
      have d5 : v1.cell? ⟨b, 5, none⟩ = some (.int .i64 t) := (below_cells hbl b 5 kb).trans k5
      have hB := hal.own (boxRow w.heap.size 36 [.slice none 0 0, .slice none 0 0, .slice none 0 0, .int .i64 0]) (by simp)
      have r0 := boxRow.cell hB (j := 0) rfl
      have r1 := boxRow.cell hB (j := 1) rfl
      have r2 := boxRow.cell hB (j := 2) rfl
      have r3 := boxRow.cell hB (j := 3) rfl
      have rl := (boxRow.lt hB).2
      have q0 := boxRow.froz hB 0
      have q1 := boxRow.froz hB 1
      have q2 := boxRow.froz hB 2
      have q3 := boxRow.froz hB 3
      have kb1 : b < v1.heap.size := Nat.lt_of_lt_of_le kb hbl.size
      have hs1 := AllOwn.store (pre := []) (b := w.heap.size) (t := 36) (cs := [.slice none 0 0, .slice none 0 0, .slice none 0 0, .int .i64 0]) (hal.below (Below.refl _ _).drew) 0 (.slice al ll cl)
      have hs2 := AllOwn.store (pre := []) (b := w.heap.size) (t := 36) hs1.1 1 (.slice (some ⟨bm, 0, none⟩) nm cm)
      have hs3 := AllOwn.store (pre := []) (b := w.heap.size) (t := 36) hs2.1 2 (.slice (some ⟨w.heap.size + 1, 0, none⟩) nm nm)
      have hs4 := AllOwn.store (pre := []) (b := w.heap.size) (t := 36) hs3.1 3 (.int .i64 t)
      have hkk := ((hs1.2.trans hs2.2).trans hs3.2).trans hs4.2
      have HB2 := Lib.hid ((hbl.trans ((Below.refl _ _).drew.mono hbl.size)).trans (hkk.below (fun j e => by omega) (by simpa using hbl.size)))
      have hw := hs4.1.own (intRow (.slice (some ⟨w.heap.size + 1, 0, none⟩) nm nm) (wayL s.m.length s.q)) (by simp)
      have HW := Lib.hid (show OwnI w.heap.size _ (.slice (some ⟨w.heap.size + 1, 0, none⟩) nm nm) (wayL s.m.length s.q) from hw)
      have hBf := hs4.1.own (boxRow w.heap.size 36 [.slice al ll cl, .slice (some ⟨bm, 0, none⟩) nm cm, .slice (some ⟨w.heap.size + 1, 0, none⟩) nm nm, .int .i64 t]) (by simp)
      have rc0 := boxRow.cell hBf (j := 0) rfl
      have rc1 := boxRow.cell hBf (j := 1) rfl
      have rc2 := boxRow.cell hBf (j := 2) rfl
      have rc3 := boxRow.cell hBf (j := 3) rfl
      have Hrc := Lib.hid (And.intro rc0 (And.intro rc1 (And.intro rc2 rc3)))
      clear rc0 rc1 rc2 rc3 hBf hs1 hs2 hs3 hs4 hkk hw hal hbl hB k2 k3 k4 k5
      go_wp2
      go_region
      go_wp2
      obtain ⟨rc0, rc1, rc2, rc3⟩ := Hrc.out
      refine bodyPost_ret (res_ret _ _ _ _ _ _ rc0 rc1 rc2 rc3 _ rfl) rfl ⟨al, cl, _, rfl, K2.out, HW.out, HB2.out⟩
end Go.Proofs.Ytpfdmmidomofdaa
