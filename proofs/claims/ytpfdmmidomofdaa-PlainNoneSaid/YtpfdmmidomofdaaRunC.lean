/-
  What arrive comes to: all tokens that are due are put where they go, the others stay under way.
  Conditions: none beyond each theorem's own.
-/
import Derived.Test.YtpfdmmidomofdaaRunB
namespace Go.Proofs.Ytpfdmmidomofdaa
open Go.RowKit
set_option linter.unusedVariables false

structure Arr (w0 wr : World) (b : Nat) (vp vt vl : Value) (bm nm cm : Nat) (t : Int) (s : St) (more : List Row) (aq : Option Addr) (nq cq k L : Nat) : Prop where
  all : AllOwn w0.heap.size wr ([boxRow b 81 (runCs vp vt vl (.slice (some ⟨bm, 0, none⟩) nm cm) (.slice aq nq cq) t), fiRow vl s.log, intRow (.slice (some ⟨bm, 0, none⟩) nm cm) (arrM t (s.q.take k) s.m)] ++ evRow (.slice aq L cq) ((s.q.take k).filter (late t)) :: more)
  below : Below w0.heap.size w0 wr
  rest : Rest wr aq nq cq k s.q
  len : L = ((s.q.take k).filter (late t)).length

section
variable {w0 wr w' : World} {b : Nat} {vp vt vl : Value} {bm nm cm : Nat} {t : Int} {s : St} {more : List Row} {aq : Option Addr} {nq cq k L : Nat}
theorem Arr.go (h : Arr w0 wr b vp vt vl bm nm cm t s more aq nq cq k L) (hb : Below wr.heap.size wr w') : Arr w0 w' b vp vt vl bm nm cm t s more aq nq cq k L :=
  ⟨h.all.below hb, h.below.trans (hb.mono h.below.size), h.rest.kept (Kept.of_below (S := fun _ => False) hb) (fun _ _ e => e), h.len⟩
theorem Arr.box (h : Arr w0 wr b vp vt vl bm nm cm t s more aq nq cq k L) : (boxRow b 81 (runCs vp vt vl (.slice (some ⟨bm, 0, none⟩) nm cm) (.slice aq nq cq) t)).own w0.heap.size wr := h.all.own _ (by simp)
theorem Arr.put (h : Arr w0 wr b vp vt vl bm nm cm t s more aq nq cq k L) (hk : k < nq) {g : Nat} (hg : aq = some ⟨g, 0, none⟩) {x : Ev} (hx : s.q[k]? = some x) (hl : late t x = true) (ty : TypeId) :
    ∃ W, (Builtin.append_ #[61, 61] ty #[.slice aq L cq, .slice (some ⟨wr.heap.size, 0, none⟩) 1 1]).run Try.prog (wr.alloc (.cells #[.int .i64 x.time, .int .i64 x.place, .int .i64 x.n] 65)) = .ok (.slice aq (L + 1) cq) W ∧
      Arr w0 W b vp vt vl bm nm cm t s more aq nq cq (k + 1) (L + 1) := by
  subst hg
  have hlen := h.len
  have hall := h.all
  have hB := h.below
  have hrest := h.rest
  have hlk := late_len t s.q k
  subst hlen
  obtain ⟨W, h1, h2, h3, h4⟩ := Rest.put hrest hall hlk hk hx ty
  have hdue : due t x = false := by rw [late_not] at hl; simpa using hl
  refine ⟨W, h1, ?_, hB.trans (h4.below (fun j e => by subst e; exact (Row.lt (hall.own (evRow (.slice (some ⟨j, 0, none⟩) ((s.q.take k).filter (late t)).length cq) ((s.q.take k).filter (late t))) (by simp)) rfl).1) hB.size), h3, ?_⟩
  · rw [late_next hx hl, arrive_skip hx hdue]; exact h2
  · rw [late_next hx hl, List.length_append, List.length_singleton]
theorem Arr.give (h : Arr w0 wr b vp vt vl bm nm cm t s more aq nq cq k L) {x : Ev} (hx : s.q[k]? = some x) (hl : due t x = true) {p : Nat} {y : Int} (hs : arrM t (s.q.take (k + 1)) s.m = (arrM t (s.q.take k) s.m).set p y)
    (ho : OwnI w0.heap.size w' (.slice (some ⟨bm, 0, none⟩) nm cm) ((arrM t (s.q.take k) s.m).set p y)) (hk : Kept (fun k => k = bm) wr w') : Arr w0 w' b vp vt vl bm nm cm t s more aq nq cq (k + 1) L := by
  have hlate : late t x = false := by rw [late_not, hl]; rfl
  have hap := h.all.apart
  have hbm := (Row.lt (h.all.own (intRow (.slice (some ⟨bm, 0, none⟩) nm cm) (arrM t (s.q.take k) s.m)) (by simp)) (k := bm) rfl).1
  refine ⟨?_, h.below.trans (hk.below (fun j e => by subst e; exact hbm) h.below.size), (h.rest.skip hx).kept hk (fun g hg e => ?_), by rw [late_skip hx hlate]; exact h.len⟩
  · rw [late_skip hx hlate, hs]
    exact AllOwn.swap (pre := [boxRow b 81 (runCs vp vt vl (.slice (some ⟨bm, 0, none⟩) nm cm) (.slice aq nq cq) t), fiRow vl s.log]) (r := intRow (.slice (some ⟨bm, 0, none⟩) nm cm) (arrM t (s.q.take k) s.m)) (r' := intRow (.slice (some ⟨bm, 0, none⟩) nm cm) ((arrM t (s.q.take k) s.m).set p y)) (post := evRow (.slice aq L cq) ((s.q.take k).filter (late t)) :: more) h.all (hk.mono (fun j _ e => by subst e; rfl)) ho (.inl rfl)
  · subst hg
    have e1 : [boxRow b 81 (runCs vp vt vl (.slice (some ⟨bm, 0, none⟩) nm cm) (.slice (some ⟨g, 0, none⟩) nq cq) t), fiRow vl s.log, intRow (.slice (some ⟨bm, 0, none⟩) nm cm) (arrM t (s.q.take k) s.m)] ++ evRow (.slice (some ⟨g, 0, none⟩) L cq) ((s.q.take k).filter (late t)) :: more = [boxRow b 81 (runCs vp vt vl (.slice (some ⟨bm, 0, none⟩) nm cm) (.slice (some ⟨g, 0, none⟩) nq cq) t), fiRow vl s.log] ++ intRow (.slice (some ⟨bm, 0, none⟩) nm cm) (arrM t (s.q.take k) s.m) :: (evRow (.slice (some ⟨g, 0, none⟩) L cq) ((s.q.take k).filter (late t)) :: more) := rfl
    rw [e1, List.pairwise_append] at hap
    exact (List.pairwise_cons.1 hap.2.1).1 (evRow (.slice (some ⟨g, 0, none⟩) L cq) ((s.q.take k).filter (late t))) (by simp) bm rfl (by subst e; rfl)
/-- all are through: what is left is laid into the box -/
theorem Arr.done (h : Arr w0 wr b vp vt vl bm nm cm t s more aq nq cq k L) (hk : s.q.length ≤ k) : RunAt w0 (wr.setCell ⟨b, 4, none⟩ (.slice aq L cq)) b vp vt bm nm cm t (arrive t s) more := by
  have h1 := h.all
  rw [List.take_of_length_le hk] at h1
  have h2 := AllOwn.store (pre := []) (b := b) (t := 81) (cs := runCs vp vt vl (.slice (some ⟨bm, 0, none⟩) nm cm) (.slice aq nq cq) t) (post := fiRow vl s.log :: intRow (.slice (some ⟨bm, 0, none⟩) nm cm) (arrM t s.q s.m) :: evRow (.slice aq L cq) (s.q.filter (late t)) :: more) h1 4 (.slice aq L cq)
  exact ⟨vl, .slice aq L cq, h2.1, h.below.trans (h2.2.below (fun j e => by subst e; exact (boxRow.lt h.box).1) h.below.size)⟩
end

set_option maxRecDepth 100000 in
set_option maxHeartbeats 4000000 in
theorem arrive_any {n : Nt} {w0 w : World} {b bm nm cm : Nat} {vp vt : Value} {t : Int} {s : St} {more : List Row} (hI : Inv n t s) (hnm : nm = s.m.length) (h : RunAt w0 w b vp vt bm nm cm t s more) :
    Calls Try.prog 83 #[.pointer (some ⟨b, 0, none⟩)] w fun e w' => e = .returned (.bool true) ∧ RunAt w0 w' b vp vt bm nm cm t (arrive t s) more := by
  obtain ⟨vl, vq, hall, hbl⟩ := h
  have ho : OwnE w0.heap.size w vq s.q := hall.own (evRow vq s.q) (by simp)
  obtain ⟨aq, cq, rfl⟩ := own_form ho
  obtain ⟨hr0, ho0, _, hshape⟩ := Rest.start ho
  obtain ⟨qn, hnq⟩ : ∃ k, k = s.q.length := ⟨_, rfl⟩
  rw [← hnq] at hall hr0 hshape
  have hq := hI.ql
  have hll := hI.ll
  have hmax : qn ≤ 16000 := by omega
  have hA0 : Arr w0 w b vp vt vl bm nm cm t s more aq qn cq 0 0 := ⟨AllOwn.swap (pre := [boxRow b 81 (runCs vp vt vl (.slice (some ⟨bm, 0, none⟩) nm cm) (.slice aq qn cq) t), fiRow vl s.log, intRow (.slice (some ⟨bm, 0, none⟩) nm cm) s.m]) (r := evRow (.slice aq qn cq) s.q) (r' := evRow (.slice aq 0 cq) []) hall (Kept.refl _ _) ho0 (.inl (by cases aq <;> rfl)), hbl, hr0, rfl⟩
  have c4 : w.cell? ⟨b, 4, none⟩ = some (.slice aq qn cq) := boxRow.cell hA0.box rfl
  have lt0 := (boxRow.lt hA0.box).2
  have HA := Lib.hid hA0
  have HI := Lib.hid hI
  have Hnq := Lib.hid hnq
  have Hnm := Lib.hid hnm
  have Hshape := Lib.hid hshape
  clear hI hnm hall hbl ho hr0 ho0 hnq hq hll hA0 hshape
  go_enter Try.func83, Try.ntmps83
  go_wp2
  clear c4
  go_loopw [3, 4, 17] (fun z v i wr => ∃ k L : Nat, k ≤ qn ∧ i = .int .i64 k ∧ z = .bool true ∧ v = .slice aq L cq ∧ Arr w0 wr b vp vt vl bm nm cm t s more aq qn cq k L) (fun _ _ i _ => qn - (intOf i).toNat)
  case atStart => exact ⟨0, 0, by omega, rfl, rfl, (by rcases Hshape.out with ⟨rfl, rfl, rfl⟩ | ⟨g, rfl, _⟩ <;> rfl), HA.out⟩
  case round =>
    rename World => v1
    obtain ⟨k, L, hk, rfl, rfl, rfl, hA⟩ := hrel
    have lt1 := (boxRow.lt hA.box).2
    by_cases hlt : k < qn
    · obtain ⟨x, hx⟩ := at_lt (l := s.q) (k := k) (by rw [← Hnq.out]; exact hlt)
      have hlti : (k : Int) < (qn : Int) := by omega
      obtain ⟨g, rfl, hcq, hcm⟩ : ∃ g, aq = some ⟨g, 0, none⟩ ∧ qn ≤ cq ∧ cq ≤ maxLen := by
        rcases Hshape.out with ⟨_, h0, _⟩ | h0
        · omega
        · exact h0
      obtain ⟨lg, e0, e1, e2⟩ := hA.rest.at_ rfl hx
      have c5 : v1.cell? ⟨b, 5, none⟩ = some (.int .i64 t) := boxRow.cell hA.box rfl
      have c3 : v1.cell? ⟨b, 3, none⟩ = some (.slice (some ⟨bm, 0, none⟩) nm cm) := boxRow.cell hA.box rfl
      have Hx := Lib.hid hx
      have HA1 := Lib.hid hA
      clear hA hx hcq hcm
      obtain ⟨xt, xp, xn⟩ := x
      simp only at e0 e1 e2
      by_cases hd : t < xt
      · go_wp2
        go_quiet (fail)
        have HA2 := Lib.hid ((HA1.out.go ((Below.refl _ _).alloc (Nat.le_refl _) (.cells #[.int .i64 xt, .int .i64 xp, .int .i64 xn] 65))).go (drewNb _ nq))
        have hs2 : ((v1.alloc (.cells #[.int .i64 xt, .int .i64 xp, .int .i64 xn] 65)).drewN nq).heap.size = v1.heap.size + 1 := by simp
        obtain ⟨W, hr, hA3⟩ := HA2.out.put hlt rfl Hx.out (by unfold late; simpa using hd) 61
        rw [hs2] at hr
        have HA3 := Lib.hid hA3
        clear hA3 hs2
        go_wp2_with (at_builtin; refine wpList_append_eq rfl (.tmp 28) (.tmp 30) 61 rfl rfl rfl hr ?_)
        go_roundw
        case rel => exact ⟨k + 1, L + 1, by omega, by go_num, rfl, rfl, HA3.out⟩
        case measure => simp [intOf]; omega
      · have hdb : decide (t < xt) = false := decide_eq_false hd
        go_wp2
        go_quiet (fail)
        have hA2 := (HA1.out.go ((Below.refl _ _).alloc (Nat.le_refl _) (.cells #[.int .i64 xt, .int .i64 xp, .int .i64 xn] 65))).go (drewNb _ nq)
        obtain ⟨p, hp0, hpl, z, hz, hz0, hz1, hset, hn1⟩ := arrive_next HI.out Hx.out (by unfold due; simpa using hd)
        simp only at hp0 hz1 hset hn1
        subst hp0
        have HP := Lib.hid (fun (W : World) (hW : Below ((v1.alloc (.cells #[.int .i64 xt, .int .i64 (p : Int), .int .i64 xn] 65)).drewN nq).heap.size ((v1.alloc (.cells #[.int .i64 xt, .int .i64 (p : Int), .int .i64 xn] 65)).drewN nq) W) =>
          mput_any (hm := show nm = (arrM t (s.q.take k) s.m).length by rw [Hnm.out]; exact (foldE_len _ _).symm) ((hA2.go hW).all.own (intRow (.slice (some ⟨bm, 0, none⟩) nm cm) (arrM t (s.q.take k) s.m)) (by simp)) (n := xn) hz (by omega) (by omega) (by omega) true (by simpa using hz1))
        have HS := Lib.hid hset
        have HA2 := Lib.hid hA2
        clear hz hset hA2 hz0 hz1 hn1
        go_upto_region 8 with (fail)
        have hdue : due t ⟨xt, (p : Int), xn⟩ = true := by unfold due; simpa using hd
        have hdr : Below ((v1.alloc (.cells #[.int .i64 xt, .int .i64 (p : Int), .int .i64 xn] 65)).drewN nq).heap.size ((v1.alloc (.cells #[.int .i64 xt, .int .i64 (p : Int), .int .i64 xn] 65)).drewN nq) ((v1.alloc (.cells #[.int .i64 xt, .int .i64 (p : Int), .int .i64 xn] 65)).drewN nq).drew := (Below.refl _ _).drew
        have Hdr := Lib.hid hdr
        clear hdr e0 e1 e2 hd
        go_region_law (first | (go_simp; go_at_call 93; refine (HP.out _ Hdr.out).mono ?_; rintro e w5 ⟨rfl, ho5, hk5⟩; have HA5 := Lib.hid ((HA2.out.go Hdr.out).give Hx.out hdue HS.out ho5 hk5); clear ho5 hk5))
        all_goals
          go_wp2
          go_roundw
          case rel => exact ⟨k + 1, L, by omega, by go_num, rfl, rfl, HA5.out⟩
          case measure => simp [intOf]; omega
    · have hge : ¬ (k : Int) < (qn : Int) := by omega
      have c4 : v1.cell? ⟨b, 4, none⟩ = some (.slice aq qn cq) := boxRow.cell hA.box rfl
      have f4 := boxRow.froz hA.box 4
      have HD := Lib.hid (hA.done (by rw [← Hnq.out]; omega))
      clear hA
      go_wp2
      go_ret
      exact ⟨rfl, HD.out⟩
end Go.Proofs.Ytpfdmmidomofdaa
