/-
  The document's own run: what it answers.
  Conditions: none beyond the theorem's own.
-/
import Derived.Test.YtpbbdnicafifpaaR9M
namespace Go.Proofs.Ytpbbdnicafifpaa
open Go.RowKit
set_option linter.unusedVariables false


theorem rrun_ret (W : World) (R : Nat) (v0 v1 v2 v3 x : Value) (h0 : W.cell? ⟨R, 0, none⟩ = some v0) (h1 : W.cell? ⟨R, 1, none⟩ = some v1) (h2 : W.cell? ⟨R, 2, none⟩ = some v2) (h3 : W.cell? ⟨R, 3, none⟩ = some v3) (tmps : Array Value) (ht : tmps[4]?.getD undef = .pointer (some ⟨R, 0, none⟩)) (hx : tmps[5]?.getD undef = x) :
    (results Try.f26 tmps).run Try.prog W = .ok (.tuple #[.agg #[v0, v1, v2, v3], x]) W := by
  simp [results, Try.results26, go_sem, ht, hx, h0, h1, h2, h3]

/-- what is answered has been stored -/
theorem ref_out {w w0 W' : World} {B4 np ll cl cm cw : Nat} {al am aw : Option Addr} {u : St} {t : Int} (hw : Below w.heap.size w w0) (hB : w.heap.size ≤ B4) (hB4 : B4 < w0.heap.size) (hc : ∀ j, j < 4 → ∃ v, w0.cell? ⟨B4, j, none⟩ = some v)
    (h0 : OwnF w0.heap.size W' (.slice al ll cl) u.log) (h1 : OwnI w0.heap.size W' (.slice am np cm) u.m) (h2 : OwnI w0.heap.size W' (.slice aw np cw) (wayL np u.q)) (h3 : Below w0.heap.size w0 W') (hl : ll = u.log.length) (hm : u.m.length = np) :
    let WR := ((((W'.setCell ⟨B4, 0, none⟩ (.slice al ll cl)).setCell ⟨B4, 1, none⟩ (.slice am np cm)).setCell ⟨B4, 2, none⟩ (.slice aw np cw)).setCell ⟨B4, 3, none⟩ (.int .i64 t))
    (WR.cell? ⟨B4, 0, none⟩ = some (.slice al ll cl) ∧ WR.cell? ⟨B4, 1, none⟩ = some (.slice am np cm) ∧ WR.cell? ⟨B4, 2, none⟩ = some (.slice aw np cw) ∧ WR.cell? ⟨B4, 3, none⟩ = some (.int .i64 t)) ∧ ResAt WR (.slice al ll cl) (.slice am np cm) (.slice aw np cw) u ∧ Below w.heap.size w WR := by
  intro WR
  obtain ⟨v0, g0⟩ := hc 0 (by omega)
  obtain ⟨v1, g1⟩ := hc 1 (by omega)
  obtain ⟨v2, g2⟩ := hc 2 (by omega)
  obtain ⟨v3, g3⟩ := hc 3 (by omega)
  have r0 := (below_cells h3 B4 0 hB4).trans g0
  have r1 := (below_cells h3 B4 1 hB4).trans g1
  have r2 := (below_cells h3 B4 2 hB4).trans g2
  have r3 := (below_cells h3 B4 3 hB4).trans g3
  have hk : Kept (fun k => k = B4) W' WR := ((((Kept.refl (fun k => k = B4) W').setCell (p := ⟨B4, 0, none⟩) rfl _).setCell (p := ⟨B4, 1, none⟩) rfl _).setCell (p := ⟨B4, 2, none⟩) rfl _).setCell (p := ⟨B4, 3, none⟩) rfl _
  have off : ∀ {e size n : Nat} {v : Value} {xs : List Value}, W'.ownsRow w0.heap.size e size v n xs → ∀ r, v.ownBlock = some r → ¬ r = B4 := fun ho r hr e => by
    have := (World.ownsRow.lt ho r hr).1; omega
  have o0 := ownS h0 hk (off h0)
  have o1 := ownS h1 hk (off h1)
  have o2 := ownS h2 hk (off h2)
  refine ⟨⟨by simp only [WR]; go_simp, by simp only [WR]; go_simp, by simp only [WR]; go_simp, by simp only [WR]; go_simp⟩, ⟨RowAt.of_own (by rw [← hl] at o0; rw [← hl]; exact o0), RowAt.of_own (by rw [← hm] at o1; rw [← hm]; exact o1), ?_⟩, ?_⟩
  · rw [hm]; exact RowAt.of_own o2
  · have hb := hw.trans (h3.mono hw.size)
    exact hb.trans (hk.below (fun k e => by subst e; exact hB) hb.size)

set_option maxRecDepth 1000000 in
set_option maxHeartbeats 8000000 in
theorem rrun_any {w : World} {n : Nt} {ap at_ : Option Addr} {cp ct np nt : Nat} {h : Int} (hnp : np = n.places.length) (hnt : nt = n.trans.length) (hnet : NetAt w (.slice ap np cp) (.slice at_ nt ct) n) (hn : NOk n) :
    Calls Try.prog 26 #[.agg #[.slice ap np cp, .slice at_ nt ct], .int .i64 h] w fun e w' => ∃ al ll cl am cm aw cw, e = .returned (.tuple #[resV (.slice al ll cl) (.slice am np cm) (.slice aw np cw) (runN n h).2.1, .int .i64 (runN n h).2.2]) ∧ ll = (runN n h).1.log.length ∧ ResAt w' (.slice al ll cl) (.slice am np cm) (.slice aw np cw) (runN n h).1 ∧ Below w.heap.size w w' := by
  obtain ⟨W0, hW0⟩ : ∃ W0, W0 = (w.alloc (.cells #[.slice ap np cp, .slice at_ nt ct] 31)).alloc (.cells #[.slice none 0 0, .slice none 0 0, .slice none 0 0, .int .i64 0] 51) := ⟨_, rfl⟩
  have hs0 : W0.heap.size = w.heap.size + 2 := by rw [hW0]; simp
  have hb0 : Below w.heap.size w W0 := by rw [hW0]; exact ((Below.refl _ w).alloc (Nat.le_refl _) _).alloc (by simp) _
  have n0 : W0.cell? ⟨w.heap.size, 0, none⟩ = some (.slice ap np cp) := by rw [hW0]; go_simp
  have n1 : W0.cell? ⟨w.heap.size, 1, none⟩ = some (.slice at_ nt ct) := by rw [hW0]; go_simp
  have hB : ∃ b4, b4 = w.heap.size + 1 := ⟨_, rfl⟩
  obtain ⟨b4, hb4⟩ := hB
  have hblk : W0.heap[b4]? = some (.cells #[.slice none 0 0, .slice none 0 0, .slice none 0 0, .int .i64 0] 51 (0, 0)) := by
    have := heap_alloc_new (w.alloc (.cells #[.slice ap np cp, .slice at_ nt ct] 31)) (.cells #[.slice none 0 0, .slice none 0 0, .slice none 0 0, .int .i64 0] 51)
    rw [show (w.alloc (.cells #[.slice ap np cp, .slice at_ nt ct] 31)).heap.size = w.heap.size + 1 by simp] at this
    rw [hW0, hb4]; exact this
  have hc4 : ∀ j, j < 4 → ∃ v, W0.cell? ⟨b4, j, none⟩ = some v := fun j hj => by
    match j, hj with
    | 0, _ => exact ⟨_, (cell_of_row _ _ 0 _ _ (0, 0) hblk).trans rfl⟩
    | 1, _ => exact ⟨_, (cell_of_row _ _ 1 _ _ (0, 0) hblk).trans rfl⟩
    | 2, _ => exact ⟨_, (cell_of_row _ _ 2 _ _ (0, 0) hblk).trans rfl⟩
    | 3, _ => exact ⟨_, (cell_of_row _ _ 3 _ _ (0, 0) hblk).trans rfl⟩
  have hf4 : ∀ j, W0.frozen? ⟨b4, j, none⟩ = false := fun j => by simp [World.frozen?, hblk]
  have hR : RefAt W0 (W0.alloc (.cells #[.slice none 0 0, .slice none 0 0, .slice none 0 0, .int .i64 0] 51)) W0.heap.size 0 [] [] [] [] := by
    have h1 := (AllOwn.nil W0.heap.size W0).add ((Below.refl _ _).alloc (Nat.le_refl _) _) (boxRow.new W0.heap.size W0 51 #[.slice none 0 0, .slice none 0 0, .slice none 0 0, .int .i64 0] (Nat.le_refl _)) (fun k e => by injection e with e; subst e; exact Nat.le_refl _)
    have h2 := ((h1.add (Below.refl _ _) (r := fiRow (.slice none 0 0) []) (ownNil _ _ _ _) (fun k e => by cases e)).add (Below.refl _ _) (r := intRow (.slice none 0 0) []) (ownNil _ _ _ _) (fun k e => by cases e)).add (Below.refl _ _) (r := intRow (.slice none 0 0) []) (ownNil _ _ _ _) (fun k e => by cases e)
    exact ⟨.slice none 0 0, .slice none 0 0, .slice none 0 0, h2, (Below.refl _ _).alloc (Nat.le_refl _) _⟩
  obtain ⟨A, hA⟩ : ∃ A, A = runN n h := ⟨_, rfl⟩
  have hlen : A.1.m.length = np := by rw [hA, (runN_inv hn h).len, hnp]
  rw [← hA]
  have hp1 : np ≤ 1000 := by have := hn.pl; omega
  have HN := Lib.hid hn
  have Hnp := Lib.hid hnp
  have Hnt := Lib.hid hnt
  have Hnet := Lib.hid (hnet.below hb0)
  have Hn0 := Lib.hid n0
  have Hn1 := Lib.hid n1
  have Hc4 := Lib.hid hc4
  have Hf4 := Lib.hid hf4
  have HR := Lib.hid hR
  have HA := Lib.hid hA
  have Hlen := Lib.hid hlen
  have Hb0 := Lib.hid hb0
  have Hs0 := Lib.hid hs0
  have Hb4 := Lib.hid hb4
  have HW0 := Lib.hid hW0
  clear hn hnp hnt hnet n0 n1 hc4 hf4 hR hA hlen hb0 hs0 hb4 hblk hW0
  go_enter Try.func26, Try.ntmps26
  go_wp2
  have hr := HR.out
  rw [Hs0.out] at hr
  rw [HW0.out] at hr
  refine loop_of 0 (first_loop (w0 := W0) (bn := w.heap.size) (vt := .slice at_ nt ct) Hnp.out hp1 Hnet.out.1 Hn0.out (by have := Hs0.out; omega) (by rw [HW0.out]; exact hr) ?_)
  intro p7 p23 p24 p25 p26 p27 p28 p29 p30 p31 p32 p33 p34 p35 p36 p37 p38 p39 p40 p41 p42 p43 p44 p45
  intro W2 hr2
  have h2 := hr2.add (Below.refl _ _) (r := evRow (.slice none 0 0) []) (ownNil _ _ _ _) (fun k e => by cases e)
  have H2 := Lib.hid h2
  clear hr hr2 h2
  go_wp2
  have hr := H2.out
  obtain rfl : b4 = w.heap.size + 1 := Hb4.out
  refine loop_of 2 (times_loop (n := n) (h := h) (w0 := W0) (bn := w.heap.size) (B4 := w.heap.size + 1) HN.out Hnp.out Hnt.out Hnet.out Hn0.out Hn1.out (by have := Hs0.out; omega) (by have := Hs0.out; have := Hb4.out; omega) Hc4.out Hf4.out hr ?_ ?_)
  · intro u tc
    intro s5 s8 s9 s10 s11 s12 s13 s14 s15 s16 s17 s18 s19 s20 s21 s22 s46 s47 s48 s49 s50 s51 s52 s53 s54 s55 s56 s57 s58 s59 s60 s61 s62 s63 s64 s65 s66 s67 s68 s69 s70 s71 s72 s73 s74 s75 s76 s77 s78 s79 s80 s81 s82 s83 s84 s85 s86 s87 s88 s89 s90 s91 s92 s93 s94 s95 s96 s97 s98 s99 s100 s101 s102 s103 s104 s105 s106 s107 s108 s109 s110 s111 s112 s113 s114 s115 s116 s117 s118 s119 s120 s121 s122 s123 s124 s125 s126 s127 s128 s129 s130 s131 s132 s133 s134 s135 s136 s137 s138 s139 s140 s141 s142 s143 s144 s145 s146 s147 s148 s149 s150 s151 s152 s153 s154 s155 s156 s157 s158 s159 s160 s161 s162 s163 s164 s165 s166 s167 s168 s169 s170 s171 s172 s173 s174 s175 s176 s177 s178 s179 s180 s181 s182 s183 s184 s185 s186 s187 s188 s189 s190 s191 s192 s193 s194 s195 s196 s197 s198 s199 s200 s201 s202 s203 s204 s205 s206 s207 s208 s209 s210 s211 s212 s213 s214 s215 s216 s217 s218 s219 s220 s221 s222 s223 s224 s225 s226 s227 s228 s229 s230 s231 s232 s233 s234 s235 s236 s237 s238 s239 s240 s241 s242 s243 s244 s245 s246 s247 s248 s249 s250 s251 s252 s253 s254 s255 s256 s257 s258 s259 s260 s261 s262 s263 s264 s265 s266 s267 s268
    intro W' hr3 hA3
    have hA4 := HA.out.trans hA3
    have hlu : u.m.length = np := by have := Hlen.out; rw [hA4] at this; exact this
    obtain ⟨al, cl, k0, hF⟩ := hr3.logs
    obtain ⟨am, cm, k1, hM, -⟩ := hr3.toks
    obtain ⟨aw, cw, k2, hW, -⟩ := hr3.ways
    have k3 := hr3.tcell
    have hRl := hr3.lt.2
    rw [hlu] at k1 hM
    rw [wayL_size] at k2 hW
    have hB4a : w.heap.size ≤ w.heap.size + 1 := by have := Hb4.out; omega
    have hB4b : w.heap.size + 1 < W0.heap.size := by have := Hs0.out; have := Hb4.out; omega
    obtain ⟨ll, hll⟩ : ∃ k, k = u.log.length := ⟨_, rfl⟩
    rw [← hll] at k0 hF
    have HO := Lib.hid (ref_out (t := tc) Hb0.out hB4a hB4b Hc4.out hF hM hW hr3.low hll hlu)
    have Hll := Lib.hid hll
    have HA4 := Lib.hid hA4
    obtain ⟨v40, h40⟩ := Hc4.out 0 (by omega)
    obtain ⟨v41, h41⟩ := Hc4.out 1 (by omega)
    obtain ⟨v42, h42⟩ := Hc4.out 2 (by omega)
    obtain ⟨v43, h43⟩ := Hc4.out 3 (by omega)
    have r0 := (below_cells hr3.low (w.heap.size + 1) 0 hB4b).trans h40
    have r1 := (below_cells hr3.low (w.heap.size + 1) 1 hB4b).trans h41
    have r2 := (below_cells hr3.low (w.heap.size + 1) 2 hB4b).trans h42
    have r3 := (below_cells hr3.low (w.heap.size + 1) 3 hB4b).trans h43
    have q0 := (Kept.of_below (S := fun _ => False) hr3.low).froz hB4b (fun e => e) (Hf4.out 0)
    have q1 := (Kept.of_below (S := fun _ => False) hr3.low).froz hB4b (fun e => e) (Hf4.out 1)
    have q2 := (Kept.of_below (S := fun _ => False) hr3.low).froz hB4b (fun e => e) (Hf4.out 2)
    have q3 := (Kept.of_below (S := fun _ => False) hr3.low).froz hB4b (fun e => e) (Hf4.out 3)
    have hB4V : w.heap.size + 1 < W'.heap.size := Nat.lt_of_lt_of_le hB4b hr3.low.size
    clear h40 h41 h42 h43 hr hr3 hF hM hW hll hA3 hA4 H2 HR hB4b
    go_wp2
    obtain ⟨⟨x0, x1, x2, x3⟩, hres, hbel⟩ := HO.out
    exact bodyPost_ret (rrun_ret _ _ _ _ _ _ _ x0 x1 x2 x3 _ rfl rfl) rfl ⟨al, ll, cl, am, cm, aw, cw, by rw [HA4.out]; rfl, by rw [HA4.out]; exact Hll.out, by rw [HA4.out]; exact hres, hbel⟩
  · intro err u t al ll cl am cm aw cw
    intro s8 s9 s10 s11 s12 s13 s14 s15 s16 s17 s18 s19 s20 s21 s22 s46 s47 s48 s49 s50 s51 s52 s53 s54 s55 s56 s57 s58 s59 s60 s61 s62 s63 s64 s65 s66 s67 s68 s69 s70 s71 s72 s73 s74 s75 s76 s77 s78 s79 s80 s81 s82 s83 s84 s85 s86 s87 s88 s89 s90 s91 s92 s93 s94 s95 s96 s97 s98 s99 s100 s101 s102 s103 s104 s105 s106 s107 s108 s109 s110 s111 s112 s113 s114 s115 s116 s117 s118 s119 s120 s121 s122 s123 s124 s125 s126 s127 s128 s129 s130 s131 s132 s133 s134 s135 s136 s137 s138 s139 s140 s141 s142 s143 s144 s145 s146 s147 s148 s149 s150 s151 s152 s153 s154 s155 s156 s157 s158 s159 s160 s161 s162 s163 s164 s165 s166 s167 s168 s169 s170 s171 s172 s173 s174 s175 s176 s177 s178 s179 s180 s181 s182 s183 s184 s185 s186 s187 s188 s189 s190 s191 s192 s193 s194 s195 s196 s197 s198 s199 s200 s201 s202 s203 s204 s205 s206 s207 s208 s209 s210 s211 s212 s213 s214 s215 s216 s217 s218 s219 s220 s221 s222 s223 s224 s225 s226 s227 s228 s229 s230 s231 s232 s233 s234 s235 s236 s237 s238 s239 s240 s241 s242 s243 s244 s245 s246 s247 s248 s249 s250 s251 s252 s253 s254 s255 s256 s257 s258 s259 s260 s261 s262 s263 s264 s265 s266 s267 s268
    intro W' h0 h1 h2 h3 h4 h5 hA3
    have hA4 := HA.out.trans hA3
    have hlu : u.m.length = np := by have := Hlen.out; rw [hA4] at this; exact this
    have hB4a : w.heap.size ≤ w.heap.size + 1 := by have := Hb4.out; omega
    have hB4b : w.heap.size + 1 < W0.heap.size := by have := Hs0.out; have := Hb4.out; omega
    obtain ⟨⟨x0, x1, x2, x3⟩, hres, hbel⟩ := ref_out (t := t) Hb0.out hB4a hB4b Hc4.out h0 h1 h2 h3 h4 hlu
    simp only [Exit.inBlock, Exit.then]
    exact bodyPost_ret (rrun_ret _ _ _ _ _ _ _ x0 x1 x2 x3 _ rfl rfl) rfl ⟨al, ll, cl, am, cm, aw, cw, by rw [hA4]; rfl, by rw [hA4]; exact h4, by rw [hA4]; exact hres, hbel⟩
end Go.Proofs.Ytpbbdnicafifpaa
