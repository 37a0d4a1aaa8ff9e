/-
  The law TrayHeaps, walked: it returns true for every list of keys and every list of pops.
  Conditions: each of the pops is a byte.
-/
import Derived.Test.YthpcaamfcmjnmaaHeapsA
import Derived.Test.YthpcaamfcmjnmaaIsRow
import Derived.Deep.CutRange
import Derived.Deep.RegionHeld3
namespace Go.Proofs.Ythpcaamfcmjnmaa
open Go.RowKit
set_option linter.unusedVariables false

/-- append as one step of a region that draws, by an equation on what it comes to -/
theorem step_append_eq {P : Program} {w w' : World} {ops : Array Oper} {o : Oper} {a : Act} {K : Act → World → Prop} {Q : Exit → Act → World → Prop} {E : Prop} (hgd : o.guard = none) (s x : Operand) (t : TypeId)
    (ho : o.op = .call { callee := .builtin .append, args := #[s, x], argTypes := #[t, t] }) {v' : Value} (v y : Value) (hs : a.eval s = v) (hx : a.eval x = y)
    (hr : (Builtin.append_ #[t, t] o.type #[v, y]).run P w = .ok v' w') (h : K (a.put o.dst v') w') :
    if Region.wanted o (yielded ops a.tmps) = true then Oper.wp P o a w K Q else E := by
  have hw : Region.wanted o (yielded ops a.tmps) = true := by simp [Region.wanted, hgd]
  rw [if_pos hw]
  unfold Oper.wp execOp
  simp only [ho, resolve, invoke, builtin, Sem.run_bind, Sem.run_pure, Result.andThen_ok, List.map_toArray, List.map_cons, List.map_nil, hs, hx, hr]
  exact h

theorem row_place {w : World} {r cap : Nat} {ks : List Key4} (h : KeyRow w r cap ks) (m : Nat) (hm : m < ks.length) (x : Key4) (hx : at4 ks m = x) :
    w.cell? ⟨r, m * 4, none⟩ = some (.int .i64 x.1) ∧ w.cell? ⟨r, m * 4 + 1, none⟩ = some (.int .i64 x.2.1) ∧ w.cell? ⟨r, m * 4 + 2, none⟩ = some (.int .i64 x.2.2.1) ∧ w.cell? ⟨r, m * 4 + 3, none⟩ = some (.int .i64 x.2.2.2) := by
  subst hx
  exact ⟨h.cells m 0 hm (by omega), h.cells m 1 hm (by omega), h.cells m 2 hm (by omega), h.cells m 3 hm (by omega)⟩

/-- the first append's outcome: a row of its own, all else as it was -/
theorem take_step {B g r cap : Nat} {w w' : World} {hv v' : Value} {ks hs : List Key4} (h : HeapAt B w g hv ks) (R : KeyRow w r cap hs)
    (hg : w.drew.grownBy w' (Value.slice none 0 0).ownBlock) (hat : v'.ownBlock = (Value.slice none 0 0).ownBlock ∨ v'.ownBlock = some w.drew.heap.size) :
    HeapAt B w' g hv ks ∧ KeyRow w' r cap hs ∧ Below w.heap.size w w' ∧ (∀ k, v'.ownBlock = some k → k = w.heap.size) := by
  have k1 : Kept (fun _ => False) w w' := (Kept.refl _ w).drew.grown hg (fun k h => by simp [Value.ownBlock] at h)
  have hrl : r < w.heap.size := by obtain ⟨cur, hb, _⟩ := R.blk; exact (Array.getElem?_eq_some_iff.1 hb).1
  refine ⟨h.kept k1 (fun e => e) (fun _ _ e => e), R.same (k1.block r hrl (fun e => e)), k1.below (fun _ e => e.elim) (Nat.le_refl _), ?_⟩
  intro k hk
  rcases hat with e | e
  · rw [e] at hk; simp [Value.ownBlock] at hk
  · rw [e] at hk; injection hk with hk; exact hk.symm

theorem drop_step {B g b : Nat} {w w' w'' : World} {hv v' v'' : Value} {ks hs : List Key4} {n : Nat} (hn : n = (without hs b).length) (hB : B ≤ w.heap.size) (h0 : HeapAt B w g hv ks) (h : HeapAt B w' g hv ks) (hw : Below w.heap.size w w') (hf : ∀ k, v'.ownBlock = some k → k = w.heap.size)
    (hp : ks.Perm (without hs b)) (hown : w''.ownsRow B 30 4 v'' n (([] ++ kcells (hs.take b)) ++ kcells (hs.drop (b + 1))))
    (hg : w'.grownBy w'' v'.ownBlock) (hat : v''.ownBlock = v'.ownBlock ∨ v''.ownBlock = some w'.heap.size) :
    HK B w'' g hv ks v'' (without hs b) ∧ Below B w w'' := by
  have k1 : Kept (fun k => k = w.heap.size) w' w'' := (Kept.refl _ w').grown hg (fun k h => hf k h)
  have hgl := h0.lt
  refine ⟨⟨h.kept k1 (fun e => by omega) (fun r hr e => by have := (h0.own.lt r hr).2; omega), ?_, ?_, hp⟩, (hw.mono hB).trans (k1.below (fun k e => by omega) (Nat.le_trans hB hw.size))⟩
  · rw [← hn]
    unfold without
    rw [kcells_app]
    simpa using hown
  · intro k hk e
    have hkl := (h0.own.lt k hk).2
    have := hw.size
    rcases hat with e2 | e2
    · rw [e2] at e; have := hf k e; omega
    · rw [e2] at e; injection e with e; omega

theorem stretch_take {w : World} {r cap b : Nat} {hs : List Key4} (h : KeyRow w r cap hs) (hb : b ≤ hs.length) :
    ∀ j u, (kcells (hs.take b))[j]? = some u → w.cell? ((⟨r, 0, none⟩ : Addr).add j) = some u := by
  have := row_stretch (xs := hs.take b) h 0 (fun i hi => by
    simp at hi
    refine ⟨by omega, ?_⟩
    simp [at4, show i < b by omega])
  simpa using this

theorem stretch_drop {w : World} {r cap b : Nat} {hs : List Key4} (h : KeyRow w r cap hs) :
    ∀ j u, (kcells (hs.drop (b + 1)))[j]? = some u → w.cell? ((⟨r, (b + 1) * 4, none⟩ : Addr).add j) = some u :=
  row_stretch (xs := hs.drop (b + 1)) h (b + 1) (fun i hi => by
    simp at hi
    refine ⟨by omega, ?_⟩
    simp [at4, List.getElem?_drop])

theorem new_key1 (w : World) {x1 x2 x3 x4 : Int} : ∀ j u, (kc (x1, x2, x3, x4))[j]? = some u → (w.alloc (.cells #[.int .i64 x1, .int .i64 x2, .int .i64 x3, .int .i64 x4] 30)).cell? ((⟨w.heap.size, 0, none⟩ : Addr).add j) = some u := by
  intro j u hj
  have hb := heap_alloc_new w (.cells #[.int .i64 x1, .int .i64 x2, .int .i64 x3, .int .i64 x4] 30)
  have e : (⟨w.heap.size, 0, none⟩ : Addr).add j = ⟨w.heap.size, j, none⟩ := by simp [Addr.add]; omega
  rw [e, cell_of_row _ _ j _ _ (0, 0) hb, ← hj]
  simp [kc]

/-- a key more in the list, which the heap has already -/
theorem HK.add {B g : Nat} {w w2 : World} {hv v v2 : Value} {ks hs : List Key4} {x : Key4} {o : Obj} (h : HeapAt B w g hv ks) (hl : w.ownsRow B 30 4 v hs.length (kcells hs))
    (hap : ∀ k, hv.ownBlock = some k → v.ownBlock ≠ some k) (hp : ks.Perm (x :: hs)) (hB : B ≤ w.heap.size) (hown : w2.ownsRow B 30 4 v2 (hs.length + 1) (kcells hs ++ kc x))
    (hg : (w.alloc o).grownBy w2 v.ownBlock) (hat : v2.ownBlock = v.ownBlock ∨ v2.ownBlock = some (w.alloc o).heap.size) : HK B w2 g hv ks v2 (hs ++ [x]) ∧ Below B w w2 := by
  have k1 : Kept (fun k => v.ownBlock = some k) w w2 := ((Kept.refl _ w).alloc o).grown hg (fun _ h => h)
  refine ⟨⟨h.kept k1 (fun e => own_not_heap h hl e rfl) hap, ?_, ?_, hp.trans (List.perm_append_singleton x hs).symm⟩, k1.below (fun k hk => (hl.lt k hk).1) hB⟩
  · rw [kcells_snoc, List.length_append]; exact hown
  · intro k hk
    rcases hat with e | e
    · rw [e]; exact hap k hk
    · rw [e]
      intro e2
      have := (h.own.lt k hk).2
      simp at e2
      omega

set_option maxRecDepth 100000 in
set_option maxHeartbeats 12000000 in
theorem heaps_big (A : Option Addr) (cap n : Nat) (pv : Value) (w : World) (hn : 40 < n) (hm : n ≤ 9223372036854775807) :
    Calls Try.prog 3 #[.slice A n cap, pv] w fun e w' => e = .returned (.bool true) ∧ Below w.heap.size w w' := by
  go_enter Try.func3, Try.ntmps3
  go_wp2_with fail
  refine (awake2 _).mono ?_
  rintro e w1 ⟨rfl, hB⟩
  have HB := Lib.hid hB
  clear hB
  go_wp2_with fail
  refine (awake2 _).mono ?_
  rintro e w2 ⟨rfl, hB⟩
  go_wp2
  go_ret
  exact ⟨rfl, HB.out.trans (hB.mono HB.out.size)⟩

set_option maxRecDepth 100000 in
set_option maxHeartbeats 12000000 in
theorem heaps_law (A : Option Addr) (cap : Nat) (ls : List Key4) (P : Option Addr) (pn pc : Nat) (zs : List Int) (w : World) (hr : ReadsK w A ls) (hp : IsRow .u8 w P pn pc zs) (hl : ls.length ≤ 40) :
    Calls Try.prog 3 #[.slice A ls.length cap, .slice P pn pc] w fun e w' => e = .returned (.bool true) ∧ Below w.heap.size w w' := by
  have hpm := hp.max
  have Hr := Lib.hid hr
  have Hp := Lib.hid hp
  clear hr hp
  obtain ⟨n, hn⟩ : ∃ n, n = ls.length := ⟨_, rfl⟩
  rw [← hn] at hl ⊢
  have Hn := Lib.hid hn
  clear hn
  obtain ⟨i0, hi0, hz0, hz1, hz2⟩ := info_parts Try.infoKey
  go_enter Try.func3, Try.ntmps3
  go_wp2_with fail
  refine (awake2 _).mono ?_
  rintro e wa ⟨rfl, hB⟩
  have Hr1 := Lib.hid (Hr.out.below hB)
  have HB := Lib.hid hB
  clear hB
  have K0 : Hid (HK wa.heap.size (wa.alloc (.cells #[.slice none 0 0] 27)) wa.heap.size (.slice none 0 0) [] (.slice none 0 0) []) := Lib.hid ⟨heap_new wa, World.ownsRow_nil _ _ _ _, fun k h => by simp [Value.ownBlock] at h, List.Perm.refl _⟩
  have B0 : Hid (Below wa.heap.size wa (wa.alloc (.cells #[.slice none 0 0] 27))) := Lib.hid ((Below.refl _ _).alloc (Nat.le_refl _) _)
  go_wp2
  go_loopw [6, 7] (fun sv si wr => ∃ i : Nat, ∃ hv : Value, ∃ ks hs : List Key4, i ≤ n ∧ si = .int .i64 i ∧ hs.length ≤ i ∧ HK wa.heap.size wr wa.heap.size hv ks sv hs ∧ Below wa.heap.size wa wr) (fun _ si _ => n - (intOf si).toNat)
  case atStart => exact ⟨0, _, [], [], Nat.zero_le _, rfl, Nat.zero_le _, K0.out, B0.out⟩
  case round =>
    obtain ⟨i, hv, ks, hs, hi, rfl, hli, hk, hb⟩ := hrel
    obtain ⟨av, cv, hsv⟩ := hk.form
    subst hsv
    have Hk := Lib.hid hk
    have Hb := Lib.hid hb
    have Hlk : Hid (ks.length = hs.length) := Lib.hid hk.perm.length_eq
    clear hk hb
    by_cases hlt : i < n
    · obtain ⟨x, hx⟩ : ∃ x, at4 ls i = x := ⟨_, rfl⟩
      obtain ⟨b1, o1, hA, hb1, c1, c2, c3, c4⟩ := Hr1.out.place i (by rw [← Hn.out]; exact hlt) x hx
      subst hA
      have Hx := Lib.hid hx
      clear hx
      obtain ⟨x1, x2, x3, x4⟩ := x
      simp only at c1 c2 c3 c4
      have e1 := (Hb.out.cell (p := ⟨b1, o1 + i * 4, none⟩) hb1).trans c1
      have e2 := (Hb.out.cell (p := ⟨b1, o1 + i * 4 + 1, none⟩) hb1).trans c2
      have e3 := (Hb.out.cell (p := ⟨b1, o1 + i * 4 + 2, none⟩) hb1).trans c3
      have e4 := (Hb.out.cell (p := ⟨b1, o1 + i * 4 + 3, none⟩) hb1).trans c4
      go_wp2_with fail
      refine (push_any wa.heap.size wa.heap.size hv ks x1 x2 x3 x4 _ Hk.out.heap (by rw [Hlk.out]; omega) Hb.out.size).mono ?_
      rintro e w1 ⟨rfl, hk1, v1, ks1, hp1, h1, hv1⟩
      have B1 := Lib.hid (Hb.out.trans (heap_below Hk.out.heap hk1 Hb.out.size))
      have L1 := Lib.hid (Hk.out.list hk1)
      have H1 := Lib.hid h1
      have P1 := Lib.hid hp1
      have V1 := Lib.hid hv1
      have f1 := (B1.out.cell (p := ⟨b1, o1 + i * 4, none⟩) hb1).trans c1
      have f2 := (B1.out.cell (p := ⟨b1, o1 + i * 4 + 1, none⟩) hb1).trans c2
      have f3 := (B1.out.cell (p := ⟨b1, o1 + i * 4 + 2, none⟩) hb1).trans c3
      have f4 := (B1.out.cell (p := ⟨b1, o1 + i * 4 + 3, none⟩) hb1).trans c4
      have A1 : Hid (∀ k, v1.ownBlock = some k → (Value.slice av hs.length cv).ownBlock ≠ some k) := Lib.hid (fun k hk e => by
        rcases hv1 k hk with h | h
        · exact Hk.out.apart k h e
        · have := (Hk.out.own.lt k e).2; omega)
      clear hk1 h1 hp1 hv1 e1 e2 e3 e4 c1 c2 c3 c4 V1
      have Z : Hid (i < pn → ∃ b off z, P = some ⟨b, off, none⟩ ∧ b < w.heap.size ∧ w.cell? ⟨b, off + i, none⟩ = some (.int .u8 z) ∧ 0 ≤ z ∧ z ≤ 255) := Lib.hid (fun h => Hp.out.byte i h)
      have E2 : Hid (∀ v2 w2, w2.ownsRow wa.heap.size 30 4 v2 (hs.length + 1) (kcells hs ++ kc (x1, x2, x3, x4)) → (w1.alloc (.cells #[.int .i64 x1, .int .i64 x2, .int .i64 x3, .int .i64 x4] 30)).grownBy w2 (Value.slice av hs.length cv).ownBlock → (v2.ownBlock = (Value.slice av hs.length cv).ownBlock ∨ v2.ownBlock = some (w1.alloc (.cells #[.int .i64 x1, .int .i64 x2, .int .i64 x3, .int .i64 x4] 30)).heap.size) → HK wa.heap.size w2 wa.heap.size v1 ks1 v2 (hs ++ [(x1, x2, x3, x4)]) ∧ Below wa.heap.size wa w2) := Lib.hid (fun v2 w2 h1 h2 h3 => by
        obtain ⟨q1, q2⟩ := HK.add H1.out L1.out A1.out (P1.out.trans (List.Perm.cons _ Hk.out.perm)) B1.out.size h1 h2 h3
        exact ⟨q1, B1.out.trans q2⟩)
      go_upto_if 53 with (at_builtin; refine wpList_append_own_at _ rfl (.tmp 43) (.tmp 48) 22 rfl wa.heap.size 30 i0 _ 4 32 Try.underlying22 hi0 hz0 hz1 hz2 rfl (by omega) (.slice av hs.length cv) hs.length (kcells hs) rfl (L1.out.alloc _) ⟨w1.heap.size, 0, none⟩ 1 1 (kc (x1, x2, x3, x4)) rfl rfl (new_key1 w1) (by simp [kc, Value.oneCell']) (by unfold maxLen; omega) (by omega) (by have := B1.out.size; simp; omega) ?_; intro v2 w2 hown2 hgrow2 hiff2 hat2; obtain ⟨hk2, hb2⟩ := E2.out v2 w2 hown2 hgrow2 hat2; obtain ⟨a2, cap2, he2⟩ := hk2.form; subst he2; have K2 := Lib.hid hk2; have B2 := Lib.hid hb2; clear hk2 hb2 hown2 hgrow2 hiff2 hat2; rw [List.length_append] at K2 ⊢)
      go_cut [8] from 31 to 146 (fun s wc => (∃ N : Nat, N ≤ 2 ∧ s = .int .i64 N) ∧ w2 = wc)
      case first =>
        by_cases hip : i < pn
        · obtain ⟨b3, o3, z, hP, hb3, hcz, hz01, hz02⟩ := Z.out hip
          subst hP
          have cz := (B2.out.cell (p := ⟨b3, o3 + i, none⟩) (by have := HB.out.size; show b3 < _; omega)).trans ((HB.out.cell (p := ⟨b3, o3 + i, none⟩) hb3).trans hcz)
          clear hcz
          go_wp2
          go_meet
          case rel => exact ⟨⟨(z % 3).toNat, by omega, by go_num⟩, rfl⟩
        · go_wp2
          go_meet
          case rel => exact ⟨⟨0, by omega, rfl⟩, rfl⟩
      case rest =>
        obtain ⟨⟨N0, hN0, rfl⟩, rfl⟩ := hcut
        go_upto_if 64 with fail
        go_cut [8] from 31 to 146 (fun s wc => (∃ N : Nat, N ≤ 50 ∧ s = .int .i64 N) ∧ w2 = wc)
        case first =>
          by_cases hlast : i + 1 = n
          · go_wp2
            go_meet
            case rel => exact ⟨⟨hs.length + 2, by omega, by go_num⟩, rfl⟩
          · go_wp2
            go_meet
            case rel => exact ⟨⟨N0, by omega, rfl⟩, rfl⟩
        case rest =>
          obtain ⟨⟨N, hN, rfl⟩, rfl⟩ := hcut
          go_wp2
          go_loopw [6, 9] (fun sv sk wr => ∃ k : Nat, ∃ hv : Value, ∃ ks hs : List Key4, k ≤ N ∧ sk = .int .i64 k ∧ hs.length ≤ i + 1 ∧ HK wa.heap.size wr wa.heap.size hv ks sv hs ∧ Below wa.heap.size wa wr) (fun _ sk _ => N - (intOf sk).toNat)
          case atStart => exact ⟨0, _, _, _, Nat.zero_le _, rfl, by simp; omega, K2.out, B2.out⟩
          case round =>
            obtain ⟨k, hv3, ks3, hs3, hk, rfl, hl3, hk3, hb3⟩ := hrel
            obtain ⟨a3, c3, he3⟩ := hk3.form
            subst he3
            have K3 := Lib.hid hk3
            have B3 := Lib.hid hb3
            have Hl3 : Hid (ks3.length = hs3.length) := Lib.hid hk3.perm.length_eq
            clear hk3 hb3
            obtain ⟨wk, hwk⟩ : ∃ wk, wk = wr := ⟨_, rfl⟩
            subst hwk
            by_cases hkn : k < N
            · go_wp2
              go_loopw [10, 11] (fun sb sj wq => ∃ j : Nat, j ≤ hs3.length ∧ sj = .int .i64 j ∧ Below wk.heap.size wk wq ∧ ((j = 0 ∧ sb = .int .i64 (-1)) ∨ ∃ b : Nat, b < j ∧ sb = .int .i64 b ∧ ∀ m, m < j → klt (at4 hs3 m) (at4 hs3 b) = false)) (fun _ sj _ => hs3.length - (intOf sj).toNat)
              case atStart => exact ⟨0, Nat.zero_le _, rfl, Below.refl _ _, .inl ⟨rfl, rfl⟩⟩
              case round =>
                obtain ⟨j, hj, rfl, hq, hbest⟩ := hrel
                have Q := Lib.hid hq
                have K4 := Lib.hid (K3.out.below hq)
                have B4 := Lib.hid (B3.out.trans (hq.mono B3.out.size))
                clear hq
                by_cases hjl : j < hs3.length
                · obtain ⟨r, c4, he4, hrow, hBr⟩ := own_row K4.out.own (by omega)
                  injection he4 with h41 h42 h43
                  subst h41 h43
                  clear h42
                  obtain ⟨x, hx⟩ : ∃ x, at4 hs3 j = x := ⟨_, rfl⟩
                  obtain ⟨cA0, cA1, cA2, cA3⟩ := row_place hrow j hjl x hx
                  have hr4 : r < wr.heap.size := World.block_lt_of_cell? wr _ cA0
                  obtain ⟨x1, x2, x3, x4⟩ := x
                  simp only at cA0 cA1 cA2 cA3
                  have Hx := Lib.hid hx
                  clear hx
                  rcases hbest with ⟨rfl, rfl⟩ | ⟨b, hbj, rfl, hmin⟩
                  · clear hrow cA0 cA1 cA2 cA3
                    go_wp2
                    go_quiet (fail)
                    go_wp2
                    go_roundw
                    case rel => exact ⟨1, by omega, by go_num, below_drewN Q.out _, .inr ⟨0, by omega, rfl, fun m hm => by rw [show m = 0 by omega]; exact klt_irrefl _⟩⟩
                    case measure => simp [intOf]; omega
                  · obtain ⟨y, hy⟩ : ∃ y, at4 hs3 b = y := ⟨_, rfl⟩
                    obtain ⟨cB0, cB1, cB2, cB3⟩ := row_place hrow b (by omega) y hy
                    obtain ⟨y1, y2, y3, y4⟩ := y
                    simp only at cB0 cB1 cB2 cB3
                    have Hy := Lib.hid hy
                    have Hmin := Lib.hid hmin
                    clear hy hmin hrow
                    have gd : decide ((b : Int) < 0) = false := by simp
                    have hbl : (b : Int) < (hs3.length : Int) := by omega
                    obtain ⟨W, hW⟩ : ∃ W, W = wr := ⟨_, rfl⟩
                    subst hW
                    have nA0 := fun p : NewBy W => NewBy.cell hr4 cA0 p
                    have nA1 := fun p : NewBy W => NewBy.cell hr4 cA1 p
                    have nA2 := fun p : NewBy W => NewBy.cell hr4 cA2 p
                    have nA3 := fun p : NewBy W => NewBy.cell hr4 cA3 p
                    have nB0 := fun p : NewBy W => NewBy.cell hr4 cB0 p
                    have nB1 := fun p : NewBy W => NewBy.cell hr4 cB1 p
                    have nB2 := fun p : NewBy W => NewBy.cell hr4 cB2 p
                    have nB3 := fun p : NewBy W => NewBy.cell hr4 cB3 p
                    cases hlt2 : klt (x1, x2, x3, x4) (y1, y2, y3, y4) with
                    | true =>
                      go_wp2
                      refine wp_region_new (by kernel_rfl) (by kernel_rfl) ?_
                      repeat (go_big_quiet_step (first | (go_at_call 11; exact Calls.new_of (lless_any _ _ _ _ _ _ _ _ _))))
                      refine wpQuiet_nil ?_
                      intro wz hz
                      obtain ⟨pz, hz⟩ := hz
                      subst hz
                      go_wp2
                      go_roundw
                      case rel => exact ⟨j + 1, by omega, by go_num, Q.out.trans (pz.below.mono Q.out.size), .inr ⟨j, by omega, rfl, fun m hm => by
                        rw [Hx.out]
                        by_cases hmj : m = j
                        · rw [hmj, Hx.out]; exact klt_irrefl _
                        · cases h : klt (at4 hs3 m) (x1, x2, x3, x4) with
                          | false => rfl
                          | true => have h1 := Hmin.out m (by omega); rw [Hy.out, klt_trans h hlt2] at h1; exact h1⟩⟩
                      case measure => simp [intOf]; omega
                    | false =>
                      go_wp2
                      refine wp_region_new (by kernel_rfl) (by kernel_rfl) ?_
                      repeat (go_big_quiet_step (first | (go_at_call 11; exact Calls.new_of (lless_any _ _ _ _ _ _ _ _ _))))
                      refine wpQuiet_nil ?_
                      intro wz hz
                      obtain ⟨pz, hz⟩ := hz
                      subst hz
                      go_wp2
                      go_roundw
                      case rel => exact ⟨j + 1, by omega, by go_num, Q.out.trans (pz.below.mono Q.out.size), .inr ⟨b, by omega, rfl, fun m hm => by
                        by_cases hmj : m = j
                        · rw [hmj, Hx.out, Hy.out]; exact hlt2
                        · exact Hmin.out m (by omega)⟩⟩
                      case measure => simp [intOf]; omega
                · obtain rfl : j = hs3.length := by omega
                  rcases hbest with ⟨hj0, rfl⟩ | ⟨b, hbj, rfl, hmin⟩
                  · have hk0 : ks3 = [] := List.eq_nil_of_length_eq_zero (by rw [Hl3.out]; exact hj0)
                    subst hk0
                    rw [hj0]
                    go_wp2_with fail
                    refine (top_empty _ _ _ _ K4.out.heap).mono ?_
                    rintro e w5 ⟨rfl, hb5⟩
                    have K5 := Lib.hid ((K4.out.below hb5).below ((Below.refl _ w5).alloc (Nat.le_refl _) (.cells #[.int .i64 0, .int .i64 0, .int .i64 0, .int .i64 0] 30)))
                    have B5 := Lib.hid ((B4.out.trans (hb5.mono B4.out.size)).alloc (o := .cells #[.int .i64 0, .int .i64 0, .int .i64 0, .int .i64 0] 30) (B4.out.trans (hb5.mono B4.out.size)).size)
                    clear hb5
                    go_wp2_with fail
                    refine (pop_empty _ _ _ _ K5.out.heap).mono ?_
                    rintro e w6 ⟨rfl, hb6⟩
                    have K6 := Lib.hid (K5.out.below hb6)
                    have B6 := Lib.hid (B5.out.trans (hb6.mono B5.out.size))
                    clear hb6
                    go_wp2
                    go_roundw
                    case rel => exact ⟨k + 1, hv3, [], hs3, by omega, by go_num, hl3, by rw [← hj0]; exact K6.out.below ((Below.refl _ w6).alloc (Nat.le_refl _) _), B6.out.alloc B6.out.size _⟩
                    case measure => simp [intOf]; omega
                  · have hbl : (b : Int) < (hs3.length : Int) := by omega
                    obtain ⟨x, hx⟩ : ∃ x, at4 hs3 b = x := ⟨_, rfl⟩
                    have hfirst : at4 ks3 0 = x := by
                      rw [← hx]
                      exact least_first K4.out.heap.heap K4.out.perm (at4_mem hbj) (fun y hy => by obtain ⟨m, hm, e⟩ := mem_at4 hy; rw [← e]; exact hmin m hm)
                    obtain ⟨x1, x2, x3, x4⟩ := x
                    have Hx := Lib.hid hx
                    have Hf := Lib.hid hfirst
                    clear hx hfirst hmin
                    go_wp2_with fail
                    refine (top_some _ _ _ _ _ K4.out.heap (by rw [Hl3.out]; omega) x1 x2 x3 x4 Hf.out).mono ?_
                    rintro e w5 ⟨rfl, hb5⟩
                    have K5 := Lib.hid ((K4.out.below hb5).below ((Below.refl _ w5).alloc (Nat.le_refl _) (.cells #[.int .i64 x1, .int .i64 x2, .int .i64 x3, .int .i64 x4] 30)))
                    have K50 := Lib.hid (K4.out.below hb5)
                    have B5 := Lib.hid ((B4.out.trans (hb5.mono B4.out.size)).alloc (o := .cells #[.int .i64 x1, .int .i64 x2, .int .i64 x3, .int .i64 x4] 30) (B4.out.trans (hb5.mono B4.out.size)).size)
                    have hxn := Lib.hid (heap_alloc_new w5 (.cells #[.int .i64 x1, .int .i64 x2, .int .i64 x3, .int .i64 x4] 30))
                    have hga5 : wa.heap.size < w5.heap.size := K50.out.heap.lt
                    clear hb5
                    go_wp2_with fail
                    refine (pop_some _ _ _ _ _ K5.out.heap (by rw [Hl3.out]; omega) (by rw [Hl3.out]; omega)).mono ?_
                    rintro e w6 ⟨rfl, hk6, v6, ks6, hp6, h6, hv6⟩
                    rw [Hf.out] at hp6 ⊢
                    have L6 := Lib.hid (K5.out.list hk6)
                    have H6 := Lib.hid h6
                    have B6 := Lib.hid (B5.out.trans (heap_below K5.out.heap hk6 B5.out.size))
                    have X6 : Hid (w6.heap[w5.heap.size]? = some (.cells #[.int .i64 x1, .int .i64 x2, .int .i64 x3, .int .i64 x4] 30 (0, 0))) := Lib.hid ((hk6.block w5.heap.size (by simp) (by rintro (e | e); omega; have := (K50.out.heap.own.lt _ e).2; omega)).trans hxn.out)
                    have P6 : Hid (ks6.Perm (without hs3 b)) := Lib.hid (by
                      have h1 := without_perm hs3 b hbj
                      rw [Hx.out] at h1
                      exact (List.perm_cons _).1 (hp6.trans (K5.out.perm.trans h1.symm)))
                    clear hk6 h6 hp6 hv6
                    obtain ⟨r, c4, he4, hrow, hBr⟩ := own_row L6.out (by omega)
                    injection he4 with h41 h42 h43
                    subst h41 h43
                    clear h42
                    obtain ⟨cB0, cB1, cB2, cB3⟩ := row_place hrow b hbj _ Hx.out
                    simp only at cB0 cB1 cB2 cB3
                    have hr6 : r < w6.heap.size := World.block_lt_of_cell? w6 _ cB0
                    have hs6 : w5.heap.size < w6.heap.size := (Array.getElem?_eq_some_iff.1 X6.out).1
                    have hcap : hs3.length ≤ c3 := hrow.le
                    have hcapm : c3 ≤ maxLen := hrow.mx
                    have R6 := Lib.hid hrow
                    clear hrow
                    have a1 : w6.cell? ⟨w5.heap.size, 0, none⟩ = some (.int .i64 x1) := by rw [cell_of_row _ _ 0 _ _ (0, 0) X6.out]; rfl
                    have a2 : w6.cell? ⟨w5.heap.size, 1, none⟩ = some (.int .i64 x2) := by rw [cell_of_row _ _ 1 _ _ (0, 0) X6.out]; rfl
                    have a3 : w6.cell? ⟨w5.heap.size, 2, none⟩ = some (.int .i64 x3) := by rw [cell_of_row _ _ 2 _ _ (0, 0) X6.out]; rfl
                    have a4 : w6.cell? ⟨w5.heap.size, 3, none⟩ = some (.int .i64 x4) := by rw [cell_of_row _ _ 3 _ _ (0, 0) X6.out]; rfl
                    go_wp2
                    go_quiet (fail)
                    go_wp2
                    obtain ⟨W8, hW8⟩ : ∃ W8, W8 = (w6.alloc (.cells #[.int .i64 x1, .int .i64 x2, .int .i64 x3, .int .i64 x4] 30)).drewN nq := ⟨_, rfl⟩
                    have H8 : Hid (HeapAt wa.heap.size W8 wa.heap.size v6 ks6) := Lib.hid (by rw [hW8]; exact H6.out.below (below_drewN ((Below.refl _ w6).alloc (Nat.le_refl _) _) nq))
                    have R8 : Hid (KeyRow W8 r c3 hs3) := Lib.hid (by rw [hW8]; exact R6.out.same (Below.heap_alloc _ _ _ hr6))
                    have B8 : Hid (Below wa.heap.size wa W8) := Lib.hid (by rw [hW8]; exact below_drewN (B6.out.alloc B6.out.size _) nq)
                    rw [← hW8]
                    clear hW8 a1 a2 a3 a4 cB0 cB1 cB2 cB3 hr6 hs6 X6 R6 H6 L6 hxn hga5
                    have T9 : Hid (∀ (v9 : Value) (w9 : World), W8.drew.grownBy w9 (Value.slice none 0 0).ownBlock → (v9.ownBlock = (Value.slice none 0 0).ownBlock ∨ v9.ownBlock = some W8.drew.heap.size) → HeapAt wa.heap.size w9 wa.heap.size v6 ks6 ∧ KeyRow w9 r c3 hs3 ∧ Below W8.heap.size W8 w9 ∧ (∀ k, v9.ownBlock = some k → k = W8.heap.size)) := Lib.hid (fun v9 w9 h1 h2 => take_step H8.out R8.out h1 h2)
                    have hbc : (b : Int) ≤ (c3 : Int) := by omega
                    have hb1l : (b : Int) + 1 ≤ (hs3.length : Int) := by omega
                    have hlt9 : (kcells (hs3.take b)).length = b * 4 := by rw [kcells_len, List.length_take]; omega
                    have hld9 : (kcells (hs3.drop (b + 1))).length = (hs3.length - (b + 1)) * 4 := by rw [kcells_len, List.length_drop]
                    have hbb : (b : Int) ≤ (b : Int) + 1 := by omega
                    have hb01 : (0 : Int) ≤ (b : Int) + 1 := by omega
                    have hwb : IntKind.i64.wrap ((b : Int) + 1) = ((b + 1 : Nat) : Int) := (IntWalk.i64_in _ (by omega)).trans (by omega)
                    have HLT := Lib.hid hlt9
                    have HLD := Lib.hid hld9
                    clear hlt9 hld9
                    obtain ⟨v9, w9, hr9, hown9, hgrow9, _, hat9⟩ := run_append_own_at (P := Try.prog) W8.drew wa.heap.size 22 22 30 i0 _ 4 32 Try.underlying22 hi0 hz0 hz1 hz2 rfl (by omega) (.slice none 0 0) 0 [] (World.ownsRow_nil _ _ _ _) ⟨r, 0, none⟩ b c3 (kcells (hs3.take b)) HLT.out (stretch_take (R8.out.same rfl) (by omega)) (kcells_one _) (by unfold maxLen; omega) (by omega) (by have := B8.out.size; exact this)
                    obtain ⟨h9, r9, b9, f9⟩ := T9.out v9 w9 hgrow9 hat9
                    have hB9 : wa.heap.size ≤ w9.heap.size := by have := B8.out.size; have := b9.size; omega
                    by_cases hcb : c3 = b + 1
                    · subst hcb
                      obtain ⟨v10, w10, hr10, hown10, hgrow10, _, hat10⟩ := run_append_own_at (P := Try.prog) w9 wa.heap.size 22 22 30 i0 _ 4 32 Try.underlying22 hi0 hz0 hz1 hz2 rfl (by omega) v9 (0 + b) ([] ++ kcells (hs3.take b)) hown9 ⟨r, 0, none⟩ (hs3.length - (b + 1)) 0 (kcells (hs3.drop (b + 1))) HLD.out (by rw [List.drop_eq_nil_of_le (by omega)]; intro j u h; simp [kcells] at h) (kcells_one _) (by unfold maxLen; omega) (by omega) hB9
                      have hz9 : hs3.length - (b + 1) = 0 := by omega
                      have hr11 := hr10
                      rw [hz9] at hr11
                      obtain ⟨hk10, hb10⟩ := drop_step (by simp [without]; omega) B8.out.size H8.out h9 b9 f9 P6.out hown10 hgrow10 hat10
                      obtain ⟨a10, c10, he10⟩ := hk10.form
                      subst he10
                      have K10 := Lib.hid hk10
                      have B10 := Lib.hid (B8.out.trans hb10)
                      have hw10 : (without hs3 b).length ≤ hs3.length := by simp [without]; omega
                      clear hk10 hb10 h9 r9 b9 f9 hown9 hgrow9 hat9 hown10 hgrow10 hat10 T9 HLT HLD
                      go_region_held3 (fun w' => True) (trivial) (first | (refine step_append_eq (by rfl) (.const (.slice none 0 0)) (.tmp 135) 22 (by rfl) (.slice none 0 0) (.slice (some ⟨r, 0, none⟩) b (b + 1)) (by rfl) (by rfl) hr9 ?_) | (refine step_append_eq (by rfl) (.tmp 136) (.tmp 140) 22 (by rfl) v9 (.slice (some ⟨r, 0, none⟩) (hs3.length - (b + 1)) 0) (by rfl) (by rfl) hr10 ?_) | (refine step_append_eq (by rfl) (.tmp 136) (.tmp 140) 22 (by rfl) v9 (.slice (some ⟨r, 0, none⟩) 0 0) (by rfl) (by rfl) hr11 ?_))
                      all_goals
                        go_wp2
                        go_roundw
                        case rel => exact ⟨k + 1, v6, ks6, without hs3 b, by omega, by go_num, by omega, K10.out, B10.out⟩
                        case measure => simp [intOf]; omega
                    · obtain ⟨v10, w10, hr10, hown10, hgrow10, _, hat10⟩ := run_append_own_at (P := Try.prog) w9 wa.heap.size 22 22 30 i0 _ 4 32 Try.underlying22 hi0 hz0 hz1 hz2 rfl (by omega) v9 (0 + b) ([] ++ kcells (hs3.take b)) hown9 ⟨r, (b + 1) * 4, none⟩ (hs3.length - (b + 1)) (c3 - (b + 1)) (kcells (hs3.drop (b + 1))) HLD.out (stretch_drop r9) (kcells_one _) (by unfold maxLen; omega) (by omega) hB9
                      obtain ⟨hk10, hb10⟩ := drop_step (by simp [without]; omega) B8.out.size H8.out h9 b9 f9 P6.out hown10 hgrow10 hat10
                      obtain ⟨a10, c10, he10⟩ := hk10.form
                      subst he10
                      have K10 := Lib.hid hk10
                      have B10 := Lib.hid (B8.out.trans hb10)
                      have hw10 : (without hs3 b).length ≤ hs3.length := by simp [without]; omega
                      clear hk10 hb10 h9 r9 b9 f9 hown9 hgrow9 hat9 hown10 hgrow10 hat10 T9 HLT HLD
                      go_region_held3 (fun w' => True) (trivial) (first | (refine step_append_eq (by rfl) (.const (.slice none 0 0)) (.tmp 135) 22 (by rfl) (.slice none 0 0) (.slice (some ⟨r, 0, none⟩) b c3) (by rfl) (by rfl) hr9 ?_) | (refine step_append_eq (by rfl) (.tmp 136) (.tmp 140) 22 (by rfl) v9 (.slice (some ⟨r, (b + 1) * 4, none⟩) (hs3.length - (b + 1)) (c3 - (b + 1))) (by rfl) (by rfl) hr10 ?_))
                      all_goals
                        go_wp2
                        go_roundw
                        case rel => exact ⟨k + 1, v6, ks6, without hs3 b, by omega, by go_num, by omega, K10.out, B10.out⟩
                        case measure => simp [intOf]; omega
            · go_wp2_with fail
              refine (len_any _ _ _ _ _ K3.out.heap).mono ?_
              rintro e w' ⟨rfl, rfl⟩
              rw [Hl3.out]
              go_wp2
              go_roundw
              case rel => exact ⟨i + 1, _, _, hs3, by omega, by go_num, hl3, K3.out, B3.out⟩
              case measure => simp [intOf]; omega
    · go_wp2_with fail
      refine (push_nil 0 0 0 0 _).mono ?_
      rintro e w1 ⟨rfl, hb1⟩
      have B1 := Lib.hid (Hb.out.trans (hb1.mono Hb.out.size))
      clear hb1
      go_wp2_with fail
      refine (pop_nil _).mono ?_
      rintro e w2 ⟨rfl, hb2⟩
      have B2 := Lib.hid (B1.out.trans (hb2.mono B1.out.size))
      clear hb2
      go_wp2_with fail
      refine (top_nil _).mono ?_
      rintro e w3 ⟨rfl, hb3⟩
      have B3 := Lib.hid ((B2.out.alloc B2.out.size _).trans (hb3.mono (by have := B2.out.size; simp; omega)))
      clear hb3
      go_wp2_with fail
      refine (len_nil _).mono ?_
      rintro e w4 ⟨rfl, rfl⟩
      go_wp2
      go_ret
      exact ⟨rfl, HB.out.trans ((B3.out.alloc B3.out.size _).mono HB.out.size)⟩

theorem heaps_lawI (A : Option Addr) (cap : Nat) (ls : List Key4) (P : Option Addr) (pn pc : Nat) (zs : List Int) (w : World) (hr : ReadsK w A ls) (hm : ls.length ≤ 9223372036854775807) (hp : IsRow .u8 w P pn pc zs) :
    Calls Try.prog 3 #[.slice A ls.length cap, .slice P pn pc] w fun e w' => e = .returned (.bool true) ∧ Below w.heap.size w w' := by
  by_cases hl : ls.length ≤ 40
  · exact heaps_law A cap ls P pn pc zs w hr hp hl
  · exact heaps_big A cap ls.length _ w (by omega) hm

end Go.Proofs.Ythpcaamfcmjnmaa
