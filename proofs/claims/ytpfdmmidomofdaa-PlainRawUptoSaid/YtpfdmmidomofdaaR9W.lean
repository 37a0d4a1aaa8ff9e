/-
  The document's own run: what comes at one time.
  Conditions: none beyond the theorem's own.
-/
import Derived.Test.YtpfdmmidomofdaaR9A
import Derived.BigRegion
namespace Go.Proofs.Ytpfdmmidomofdaa
open Go.RowKit
set_option linter.unusedVariables false

theorem due_late {t : Int} {x : Ev} {b : Bool} (h : late t x = b) : due t x = !b := by rw [← h, late_not, Bool.not_not]

noncomputable def waitBody : Code := ((Try.f16.body.map loopsR).getD []).getD 2 .skip

set_option maxRecDepth 1000000 in
set_option maxHeartbeats 8000000 in
theorem wait_loop {w0 w1 : World} {R : Nat} {n : Nt} {t : Int} {s : St} {lg : List (Int × Int)} {aq : Option Addr} {nq cq : Nat} {c0 c1 c2 c3 c4 c5 c7 c10 c13 c14 c15 c16 c17 c18 c19 c20 c21 c22 c23 c24 c25 c26 c27 c28 c29 c30 c31 c32 c33 c34 c35 c36 c37 c38 c39 c40 c41 c42 c43 c44 c45 c46 c47 c48 c49 c50 c51 c52 c53 c54 c55 c56 c57 c58 c59 c60 c61 c62 c63 c64 c65 c66 c67 c68 c69 c70 c71 c72 c73 c74 c75 c76 c77 c78 c79 c80 c81 c82 c83 c84 c85 c86 c87 c88 c89 c90 c91 c92 c93 c94 c95 c96 c97 c98 c99 c100 c101 c102 c103 c104 c105 c106 c107 c108 c109 c110 c111 c112 c113 c114 c115 c116 c117 c118 c119 c120 c121 c122 c123 c124 c125 c126 c127 c128 c129 c130 c131 c132 c133 c134 c135 c136 c137 c138 c139 c140 c141 c142 c143 c144 c145 c146 c147 c148 c149 c150 c151 c152 c153 c154 c155 c156 c157 c158 c159 c160 c161 c162 c163 c164 c165 c166 c167 c168 c169 c170 c171 c172 c173 c174 c175 c176 c177 c178 c179 c180 c181 c182 c183 c184 c185 c186 c187 c188 c189 c190 c191 c192 c193 c194 c195 c196 c197 c198 c199 c200 c201 c202 c203 c204 c205 c206 c207 c208 c209 c210 c211 c212 c213 c214 c215 c216 c217 c218 c219 c220 c221 c222 c223 c224 c225 c226 c227 c228 c229 c230 c231 c232 c233 c234 c235 c236 c237 c238 c239 c240 c241 c242 c243 c244 c245 c246 c247 c248 c249 c250 c251 c252 c253 c254 c255 c256 c257 c258 c259 c260 c261 c262 c263 c264 c265 c266 c267 c268 c269 : Value} {Nx Mx : Act → World → Prop}
    (hnq : nq = s.q.length) (hI : Inv n t s) (hge : ∀ e ∈ s.q, t ≤ e.time) (hR : RefAt w0 w1 R t lg s.m (wayL s.m.length s.q) [evRow (.slice aq nq cq) s.q])
    (hexit : ∀ (a : Option Addr) (nf c : Nat) (u12 u13 u51 u52 u53 u54 u55 u56 u57 u58 u59 u60 u61 u62 u63 u64 u65 u66 u67 u68 u69 u70 u71 u72 u73 u74 u75 u76 u77 u78 u79 u80 u81 u82 u83 u84 u85 u86 u87 u88 : Value) (W' : World), RefAt w0 W' R t lg (arrM t s.q s.m) (wayL s.m.length (s.q.filter (late t))) [evRow (.slice aq nq cq) s.q, evRow (.slice a nf c) (s.q.filter (late t))] → nf = (s.q.filter (late t)).length → Nx ⟨(c0 :: c1 :: c2 :: c3 :: c4 :: c5 :: (.pointer (some ⟨R, 0, none⟩)) :: c7 :: (.slice aq nq cq) :: (.int .i64 t) :: c10 :: (.slice a nf c) :: u12 :: u13 :: c14 :: c15 :: c16 :: c17 :: c18 :: c19 :: c20 :: c21 :: c22 :: c23 :: c24 :: c25 :: c26 :: c27 :: c28 :: c29 :: c30 :: c31 :: c32 :: c33 :: c34 :: c35 :: c36 :: c37 :: c38 :: c39 :: c40 :: c41 :: c42 :: c43 :: c44 :: c45 :: c46 :: c47 :: c48 :: c49 :: c50 :: u51 :: u52 :: u53 :: u54 :: u55 :: u56 :: u57 :: u58 :: u59 :: u60 :: u61 :: u62 :: u63 :: u64 :: u65 :: u66 :: u67 :: u68 :: u69 :: u70 :: u71 :: u72 :: u73 :: u74 :: u75 :: u76 :: u77 :: u78 :: u79 :: u80 :: u81 :: u82 :: u83 :: u84 :: u85 :: u86 :: u87 :: u88 :: c89 :: c90 :: c91 :: c92 :: c93 :: c94 :: c95 :: c96 :: c97 :: c98 :: c99 :: c100 :: c101 :: c102 :: c103 :: c104 :: c105 :: c106 :: c107 :: c108 :: c109 :: c110 :: c111 :: c112 :: c113 :: c114 :: c115 :: c116 :: c117 :: c118 :: c119 :: c120 :: c121 :: c122 :: c123 :: c124 :: c125 :: c126 :: c127 :: c128 :: c129 :: c130 :: c131 :: c132 :: c133 :: c134 :: c135 :: c136 :: c137 :: c138 :: c139 :: c140 :: c141 :: c142 :: c143 :: c144 :: c145 :: c146 :: c147 :: c148 :: c149 :: c150 :: c151 :: c152 :: c153 :: c154 :: c155 :: c156 :: c157 :: c158 :: c159 :: c160 :: c161 :: c162 :: c163 :: c164 :: c165 :: c166 :: c167 :: c168 :: c169 :: c170 :: c171 :: c172 :: c173 :: c174 :: c175 :: c176 :: c177 :: c178 :: c179 :: c180 :: c181 :: c182 :: c183 :: c184 :: c185 :: c186 :: c187 :: c188 :: c189 :: c190 :: c191 :: c192 :: c193 :: c194 :: c195 :: c196 :: c197 :: c198 :: c199 :: c200 :: c201 :: c202 :: c203 :: c204 :: c205 :: c206 :: c207 :: c208 :: c209 :: c210 :: c211 :: c212 :: c213 :: c214 :: c215 :: c216 :: c217 :: c218 :: c219 :: c220 :: c221 :: c222 :: c223 :: c224 :: c225 :: c226 :: c227 :: c228 :: c229 :: c230 :: c231 :: c232 :: c233 :: c234 :: c235 :: c236 :: c237 :: c238 :: c239 :: c240 :: c241 :: c242 :: c243 :: c244 :: c245 :: c246 :: c247 :: c248 :: c249 :: c250 :: c251 :: c252 :: c253 :: c254 :: c255 :: c256 :: c257 :: c258 :: c259 :: c260 :: c261 :: c262 :: c263 :: c264 :: c265 :: c266 :: c267 :: c268 :: c269 :: []).toArray, []⟩ W')
    : Code.wp Try.prog (Code.loop waitBody) (outPost 4 Nx Mx) ⟨(c0 :: c1 :: c2 :: c3 :: c4 :: c5 :: (.pointer (some ⟨R, 0, none⟩)) :: c7 :: (.slice aq nq cq) :: (.int .i64 t) :: c10 :: (.slice none 0 0) :: (.int .i64 0) :: c13 :: c14 :: c15 :: c16 :: c17 :: c18 :: c19 :: c20 :: c21 :: c22 :: c23 :: c24 :: c25 :: c26 :: c27 :: c28 :: c29 :: c30 :: c31 :: c32 :: c33 :: c34 :: c35 :: c36 :: c37 :: c38 :: c39 :: c40 :: c41 :: c42 :: c43 :: c44 :: c45 :: c46 :: c47 :: c48 :: c49 :: c50 :: c51 :: c52 :: c53 :: c54 :: c55 :: c56 :: c57 :: c58 :: c59 :: c60 :: c61 :: c62 :: c63 :: c64 :: c65 :: c66 :: c67 :: c68 :: c69 :: c70 :: c71 :: c72 :: c73 :: c74 :: c75 :: c76 :: c77 :: c78 :: c79 :: c80 :: c81 :: c82 :: c83 :: c84 :: c85 :: c86 :: c87 :: c88 :: c89 :: c90 :: c91 :: c92 :: c93 :: c94 :: c95 :: c96 :: c97 :: c98 :: c99 :: c100 :: c101 :: c102 :: c103 :: c104 :: c105 :: c106 :: c107 :: c108 :: c109 :: c110 :: c111 :: c112 :: c113 :: c114 :: c115 :: c116 :: c117 :: c118 :: c119 :: c120 :: c121 :: c122 :: c123 :: c124 :: c125 :: c126 :: c127 :: c128 :: c129 :: c130 :: c131 :: c132 :: c133 :: c134 :: c135 :: c136 :: c137 :: c138 :: c139 :: c140 :: c141 :: c142 :: c143 :: c144 :: c145 :: c146 :: c147 :: c148 :: c149 :: c150 :: c151 :: c152 :: c153 :: c154 :: c155 :: c156 :: c157 :: c158 :: c159 :: c160 :: c161 :: c162 :: c163 :: c164 :: c165 :: c166 :: c167 :: c168 :: c169 :: c170 :: c171 :: c172 :: c173 :: c174 :: c175 :: c176 :: c177 :: c178 :: c179 :: c180 :: c181 :: c182 :: c183 :: c184 :: c185 :: c186 :: c187 :: c188 :: c189 :: c190 :: c191 :: c192 :: c193 :: c194 :: c195 :: c196 :: c197 :: c198 :: c199 :: c200 :: c201 :: c202 :: c203 :: c204 :: c205 :: c206 :: c207 :: c208 :: c209 :: c210 :: c211 :: c212 :: c213 :: c214 :: c215 :: c216 :: c217 :: c218 :: c219 :: c220 :: c221 :: c222 :: c223 :: c224 :: c225 :: c226 :: c227 :: c228 :: c229 :: c230 :: c231 :: c232 :: c233 :: c234 :: c235 :: c236 :: c237 :: c238 :: c239 :: c240 :: c241 :: c242 :: c243 :: c244 :: c245 :: c246 :: c247 :: c248 :: c249 :: c250 :: c251 :: c252 :: c253 :: c254 :: c255 :: c256 :: c257 :: c258 :: c259 :: c260 :: c261 :: c262 :: c263 :: c264 :: c265 :: c266 :: c267 :: c268 :: c269 :: []).toArray, []⟩ w1 := by
  conv => arg 2; arg 1; whnf
  have Hnq := Lib.hid hnq
  have HI := Lib.hid hI
  have Hge := Lib.hid hge
  have HR := Lib.hid hR
  have Hex := Lib.hid hexit
  have hql : nq ≤ 1000000 := by have := hI.ql; have := hI.ll; omega
  clear hnq hI hge hR hexit
  go_loopw [11, 12] (fun f i wr => ∃ (k : Nat) (a : Option Addr) (nf c : Nat), k ≤ nq ∧ i = .int .i64 k ∧ f = .slice a nf c ∧ RefAt w0 wr R t lg (arrM t (s.q.take k) s.m) (wayL s.m.length (leftTo t s.q k)) [evRow (.slice aq nq cq) s.q, evRow (.slice a nf c) ((s.q.take k).filter (late t))] ∧ Hid (nf = ((s.q.take k).filter (late t)).length)) (fun _ i _ => nq - (intOf i).toNat)
  case atStart => exact ⟨0, none, 0, 0, by omega, rfl, rfl, by rw [leftTo_zero]; exact HR.out.add (Below.refl _ _) (r := evRow (.slice none 0 0) []) (ownNil _ _ _ _) (fun k e => by cases e), Lib.hid rfl⟩
  case round =>
    rename World => v1
    obtain ⟨k, a, nf, c, hk, rfl, rfl, hr, Hnf⟩ := hrel
    have hEv := hr.evs (a := aq) (nq := nq) (c := cq) (q := s.q) (by simp)
    have hlt0 := hr.lt
    by_cases hlt : k < nq
    · obtain ⟨x, hx⟩ := at_lt (l := s.q) (k := k) (by rw [← Hnq.out]; exact hlt)
      have hlti : (k : Int) < (nq : Int) := by omega
      obtain ⟨g, off, rfl, hgw, e0, e1, e2⟩ := hEv.at_ hx
      have hxt := late_ne (Hge.out x (List.mem_of_getElem? hx))
      cases hla : late t x with
      | true =>
        rw [hla] at hxt
        have hne : x.time ≠ t := by simpa using hxt.symm
        have hneb : (x.time != t) = true := by simpa using hne
        have hneb2 : (x.time == t) = false := by simpa using hne
        have hst := leftTo_stay (k := k) hx hla
        have hlf := late_next hx hla
        have hsk : arrM t (s.q.take (k + 1)) s.m = arrM t (s.q.take k) s.m := arrive_skip hx (due_late hla)
        have hbx := hr.go ((Below.refl _ _).alloc (Nat.le_refl _) (.cells #[.int .i64 x.time, .int .i64 x.place, .int .i64 x.n] 65))
        obtain ⟨a', n', c', w', hrun, hr2, hn'⟩ := RefAt.pushE (pre := [evRow (.slice (some ⟨g, off, none⟩) nq cq) s.q]) (post := []) hbx (by have := late_len t s.q k; omega) 61 x
        rw [← hlf] at hr2 hn'
        rw [← hst, ← hsk] at hr2
        have HR2 := Lib.hid hr2
        have Hn2 := Lib.hid hn'
        obtain ⟨xt, xp, xn⟩ := x
        simp only at e0 e1 e2 hrun hneb hneb2 hbx
        rw [show (v1.alloc (.cells #[.int .i64 xt, .int .i64 xp, .int .i64 xn] 65)).heap.size = v1.heap.size + 1 by simp] at hrun
        clear hx hxt hne hst hlf hsk hbx hr hr2 hn' hEv hla
        go_wp2_with (at_builtin; refine wpList_append_eq rfl (.tmp 65) (.tmp 67) 61 rfl rfl rfl hrun ?_)
        go_roundw
        case rel => exact ⟨k + 1, a', n', c', by omega, by go_num, rfl, HR2.out, Hn2⟩
        case measure => simp [intOf]; omega
      | false =>
        rw [hla] at hxt
        have heq : x.time = t := by simpa using hxt.symm
        have hdue : due t x = true := due_late hla
        obtain ⟨p, hp0, hpl, zw, hzw, hw0, hw1, hn1, hn2, hwset⟩ := left_next HI.out hx hla
        obtain ⟨p2, hp2, _, zm, hzm, hm0, hm1, hmset, _⟩ := arrive_next HI.out hx hdue
        obtain rfl : p2 = p := by omega
        have hlf := late_skip hx hla
        obtain ⟨xt, xp, xn⟩ := x
        simp only at e0 e1 e2 heq hp0 hn1 hn2 hwset hm1 hmset
        subst heq hp0
        have hlw : (wayL s.m.length (leftTo xt s.q k)).length = s.m.length := wayL_size _ _
        have hlm : (arrM xt (s.q.take k) s.m).length = s.m.length := foldE_len _ _
        have heqb : (xt != xt) = false := by simp
        have heqb2 : (xt == xt) = true := by simp
        have Hnf2 : Hid (nf = ((s.q.take (k + 1)).filter (late xt)).length) := Lib.hid (by rw [hlf]; exact Hnf.out)
        obtain ⟨bm, cm, bw, cw, k1, k2, hM, hW, n1, n2, n3, -, -, tB, -⟩ := hr.both (by rw [hlm]; omega) (by rw [hlw]; omega)
        have c0 := hW.cell hzw
        have f0 := hW.froz p2
        have l0 := hW.lt.2
        have d0 := hM.cell hzm
        have g0 := hM.froz p2
        have m0 := hM.lt.2
        have hr4 := tB v1 (Below.refl _ _) p2 (zw - xn) p2 (zm + xn) (by rw [hlm]; exact hpl) (by rw [hlw]; exact hpl)
        rw [← hwset, ← hmset, ← hlf] at hr4
        have HR4 := Lib.hid hr4
        rw [hlm] at k1
        rw [hlw] at k2
        have n1' : bm ≠ R := fun e => n1 e.symm
        have n2' : bw ≠ R := fun e => n2 e.symm
        have n3' : bw ≠ bm := fun e => n3 e.symm
        obtain ⟨P, hP⟩ : ∃ P, P = s.m.length := ⟨_, rfl⟩
        rw [← hP] at k1 k2 hpl
        have hpi : (p2 : Int) < (P : Int) := by omega
        have w1b : IntKind.i64.wrap (zw - xn) = zw - xn := IntWalk.i64_in _ (by omega)
        have w2b : IntKind.i64.wrap (zm + xn) = zm + xn := IntWalk.i64_in _ (by omega)
        obtain ⟨hR0, hR1⟩ := hlt0
        clear hx hxt hla hdue hp2 hlf hr hEv hlw hlm hM hW tB hr4 hzw hzm hwset hmset hw0 hw1 hn1 hn2 hm0 hm1 hP
        go_upto_region 19 with (fail)
        have x1 : (v1.alloc (.cells #[.int .i64 xt, .int .i64 (p2 : Int), .int .i64 xn] 65)).cell? ⟨v1.heap.size, 1, none⟩ = some (.int .i64 (p2 : Int)) := by go_simp
        have x2 : (v1.alloc (.cells #[.int .i64 xt, .int .i64 (p2 : Int), .int .i64 xn] 65)).cell? ⟨v1.heap.size, 2, none⟩ = some (.int .i64 xn) := by go_simp
        have l0' : bw < v1.heap.size + 1 := by omega
        have m0' : bm < v1.heap.size + 1 := by omega
        have e1' : ¬ bw = v1.heap.size := by omega
        have e2' : ¬ bm = v1.heap.size := by omega
        have e3' : ¬ v1.heap.size = bw := by omega
        have e4' : ¬ v1.heap.size = bm := by omega
        have e5' : ¬ R = v1.heap.size := by omega
        clear e0 e1 e2
        have y1 : ((v1.setCell ⟨bw, p2, none⟩ (.int .i64 (zw - xn))).alloc (.cells #[.int .i64 xt, .int .i64 (p2 : Int), .int .i64 xn] 65)).cell? ⟨v1.heap.size, 1, none⟩ = some (.int .i64 (p2 : Int)) := by
          have e := cell_of_row _ ((v1.setCell ⟨bw, p2, none⟩ (.int .i64 (zw - xn)))).heap.size 1 _ _ (0, 0) (heap_alloc_new ((v1.setCell ⟨bw, p2, none⟩ (.int .i64 (zw - xn)))) (.cells #[.int .i64 xt, .int .i64 (p2 : Int), .int .i64 xn] 65))
          first | exact e | (rw [World.size_setCell] at e; exact e) | (rw [World.size_setCell, World.size_setCell] at e; exact e)
        have y2 : ((v1.setCell ⟨bw, p2, none⟩ (.int .i64 (zw - xn))).alloc (.cells #[.int .i64 xt, .int .i64 (p2 : Int), .int .i64 xn] 65)).cell? ⟨v1.heap.size, 2, none⟩ = some (.int .i64 xn) := by
          have e := cell_of_row _ ((v1.setCell ⟨bw, p2, none⟩ (.int .i64 (zw - xn)))).heap.size 2 _ _ (0, 0) (heap_alloc_new ((v1.setCell ⟨bw, p2, none⟩ (.int .i64 (zw - xn)))) (.cells #[.int .i64 xt, .int .i64 (p2 : Int), .int .i64 xn] 65))
          first | exact e | (rw [World.size_setCell] at e; exact e) | (rw [World.size_setCell, World.size_setCell] at e; exact e)
        have z1 : (((v1.setCell ⟨bw, p2, none⟩ (.int .i64 (zw - xn))).setCell ⟨bm, p2, none⟩ (.int .i64 (zm + xn))).alloc (.cells #[.int .i64 xt, .int .i64 (p2 : Int), .int .i64 xn] 65)).cell? ⟨v1.heap.size, 1, none⟩ = some (.int .i64 (p2 : Int)) := by
          have e := cell_of_row _ (((v1.setCell ⟨bw, p2, none⟩ (.int .i64 (zw - xn))).setCell ⟨bm, p2, none⟩ (.int .i64 (zm + xn)))).heap.size 1 _ _ (0, 0) (heap_alloc_new (((v1.setCell ⟨bw, p2, none⟩ (.int .i64 (zw - xn))).setCell ⟨bm, p2, none⟩ (.int .i64 (zm + xn)))) (.cells #[.int .i64 xt, .int .i64 (p2 : Int), .int .i64 xn] 65))
          first | exact e | (rw [World.size_setCell] at e; exact e) | (rw [World.size_setCell, World.size_setCell] at e; exact e)
        have z2 : (((v1.setCell ⟨bw, p2, none⟩ (.int .i64 (zw - xn))).setCell ⟨bm, p2, none⟩ (.int .i64 (zm + xn))).alloc (.cells #[.int .i64 xt, .int .i64 (p2 : Int), .int .i64 xn] 65)).cell? ⟨v1.heap.size, 2, none⟩ = some (.int .i64 xn) := by
          have e := cell_of_row _ (((v1.setCell ⟨bw, p2, none⟩ (.int .i64 (zw - xn))).setCell ⟨bm, p2, none⟩ (.int .i64 (zm + xn)))).heap.size 2 _ _ (0, 0) (heap_alloc_new (((v1.setCell ⟨bw, p2, none⟩ (.int .i64 (zw - xn))).setCell ⟨bm, p2, none⟩ (.int .i64 (zm + xn)))) (.cells #[.int .i64 xt, .int .i64 (p2 : Int), .int .i64 xn] 65))
          first | exact e | (rw [World.size_setCell] at e; exact e) | (rw [World.size_setCell, World.size_setCell] at e; exact e)
        refine wp_region_held_drew (S := (fun w' : World => w'.cell? ⟨R, 2, none⟩ = some (.slice (some ⟨bw, 0, none⟩) P cw) ∧ w'.cell? ⟨v1.heap.size, 1, none⟩ = some (.int .i64 (p2 : Int)) ∧ w'.cell? ⟨v1.heap.size, 2, none⟩ = some (.int .i64 xn))) (by kernel_rfl) ⟨by go_simp, x1, x2⟩ (fun hHeld => ?_)
        refine wpAnyH_take (i := 0) (oi := { dst := some 69, op := Op.fieldAddr 36 (Operand.tmp 6) 2, type := 0, pos := "ref.go:31", after := #[], guard := none }) (v := ?_) rfl (by kernel_rfl) (by kernel_rfl) (by kernel_rfl) (fun _ _ _ h => h) (Or.inl ⟨by rfl, ?hy1⟩) (by assumption) ?rest1
        case hy1 =>
          intro w hSw
          try dsimp only at hSw
          go_simp
          all_goals with_reducible rfl
        try simp only [Act.put, List.setIfInBounds_toArray, List.set_cons_zero, List.set_cons_succ]
        refine wpAnyH_take (i := 1) (oi := { dst := some 70, op := Op.load 34 (Operand.tmp 69), type := 34, pos := "ref.go:31", after := #[{ on := 0, ground := Ground.data }], guard := none }) (v := ?_) rfl (by kernel_rfl) (by kernel_rfl) (by kernel_rfl) (fun _ _ _ h => h) (Or.inl ⟨by rfl, ?hy2⟩) (by assumption) ?rest2
        case hy2 =>
          intro w hSw
          try dsimp only at hSw
          go_simp
          all_goals with_reducible rfl
        try simp only [Act.put, List.setIfInBounds_toArray, List.set_cons_zero, List.set_cons_succ]
        refine wpAnyH_take (i := 2) (oi := { dst := some 71, op := Op.fieldAddr 65 (Operand.tmp 13) 1, type := 0, pos := "ref.go:31", after := #[], guard := none }) (v := ?_) rfl (by kernel_rfl) (by kernel_rfl) (by kernel_rfl) (fun _ _ _ h => h) (Or.inl ⟨by rfl, ?hy3⟩) (by assumption) ?rest3
        case hy3 =>
          intro w hSw
          try dsimp only at hSw
          go_simp
          all_goals with_reducible rfl
        try simp only [Act.put, List.setIfInBounds_toArray, List.set_cons_zero, List.set_cons_succ]
        refine wpAnyH_take (i := 3) (oi := { dst := some 72, op := Op.load 3 (Operand.tmp 71), type := 3, pos := "ref.go:31", after := #[{ on := 2, ground := Ground.data }], guard := none }) (v := ?_) rfl (by kernel_rfl) (by kernel_rfl) (by kernel_rfl) (fun _ _ _ h => h) (Or.inl ⟨by rfl, ?hy4⟩) (by assumption) ?rest4
        case hy4 =>
          intro w hSw
          try dsimp only at hSw
          go_simp
          all_goals with_reducible rfl
        try simp only [Act.put, List.setIfInBounds_toArray, List.set_cons_zero, List.set_cons_succ]
        refine wpAnyH_take (i := 4) (oi := { dst := some 73, op := Op.indexAddr 34 (Operand.tmp 70) (Operand.tmp 72), type := 0, pos := "ref.go:31", after := #[{ on := 1, ground := Ground.data }, { on := 3, ground := Ground.data }], guard := none }) (v := ?_) rfl (by kernel_rfl) (by kernel_rfl) (by kernel_rfl) (fun _ _ _ h => h) (Or.inl ⟨by rfl, ?hy5⟩) (by assumption) ?rest5
        case hy5 =>
          intro w hSw
          try dsimp only at hSw
          go_simp
          all_goals with_reducible rfl
        try simp only [Act.put, List.setIfInBounds_toArray, List.set_cons_zero, List.set_cons_succ]
        refine wpAnyH_take (i := 6) (oi := { dst := some 75, op := Op.fieldAddr 65 (Operand.tmp 13) 2, type := 0, pos := "ref.go:31", after := #[], guard := none }) (v := ?_) rfl (by kernel_rfl) (by kernel_rfl) (by kernel_rfl) (fun _ _ _ h => h) (Or.inl ⟨by rfl, ?hy6⟩) (by assumption) ?rest6
        case hy6 =>
          intro w hSw
          try dsimp only at hSw
          go_simp
          all_goals with_reducible rfl
        try simp only [Act.put, List.setIfInBounds_toArray, List.set_cons_zero, List.set_cons_succ]
        refine wpAnyH_take (i := 7) (oi := { dst := some 76, op := Op.load 3 (Operand.tmp 75), type := 3, pos := "ref.go:31", after := #[{ on := 6, ground := Ground.data }], guard := none }) (v := ?_) rfl (by kernel_rfl) (by kernel_rfl) (by kernel_rfl) (fun _ _ _ h => h) (Or.inl ⟨by rfl, ?hy7⟩) (by assumption) ?rest7
        case hy7 =>
          intro w hSw
          try dsimp only at hSw
          go_simp
          all_goals with_reducible rfl
        try simp only [Act.put, List.setIfInBounds_toArray, List.set_cons_zero, List.set_cons_succ]
        refine wpAnyH_ready (rs := [5]) (by kernel_rfl) (by simp) ?_
        refine AllReadyH.cons (o := { dst := some 74, op := Op.load 3 (Operand.tmp 73), type := 3, pos := "ref.go:31", after := #[{ on := 4, ground := Ground.data }], guard := none }) rfl (fun K hK => ?step8) ?more8
        case more8 => exact AllReadyH.nil
        go_simp
        refine hK.out _ _ ?hs8 (fun hHeld => ?go8)
        case hs8 => assumption
        clear hK K
        try simp only [Act.put, List.setIfInBounds_toArray, List.set_cons_zero, List.set_cons_succ]
        refine wpAnyH_take (i := 8) (oi := { dst := some 77, op := Op.binOp BinOp.sub 3 (Operand.tmp 74) (Operand.tmp 76) 3, type := 3, pos := "ref.go:31", after := #[{ on := 5, ground := Ground.data }, { on := 7, ground := Ground.data }], guard := none }) (v := ?_) rfl (by kernel_rfl) (by kernel_rfl) (by kernel_rfl) (fun _ _ _ h => h) (Or.inl ⟨by rfl, ?hy9⟩) (by assumption) ?rest9
        case hy9 =>
          intro w hSw
          try dsimp only at hSw
          go_simp
          all_goals with_reducible rfl
        try simp only [Act.put, List.setIfInBounds_toArray, List.set_cons_zero, List.set_cons_succ]
        refine wpAnyH_take (i := 9) (oi := { dst := some 78, op := Op.indexAddr 34 (Operand.tmp 70) (Operand.tmp 72), type := 0, pos := "ref.go:31", after := #[{ on := 1, ground := Ground.data }, { on := 3, ground := Ground.data }, { on := 0, ground := Ground.phase }, { on := 1, ground := Ground.phase }, { on := 2, ground := Ground.phase }, { on := 3, ground := Ground.phase }, { on := 4, ground := Ground.phase }, { on := 5, ground := Ground.phase }, { on := 6, ground := Ground.phase }, { on := 7, ground := Ground.phase }, { on := 8, ground := Ground.phase }], guard := none }) (v := ?_) rfl (by kernel_rfl) (by kernel_rfl) (by kernel_rfl) (fun _ _ _ h => h) (Or.inl ⟨by rfl, ?hy10⟩) (by assumption) ?rest10
        case hy10 =>
          intro w hSw
          try dsimp only at hSw
          go_simp
          all_goals with_reducible rfl
        try simp only [Act.put, List.setIfInBounds_toArray, List.set_cons_zero, List.set_cons_succ]
        refine wpAnyH_ready (rs := [10]) (by kernel_rfl) (by simp) ?_
        refine AllReadyH.cons (o := { dst := none, op := Op.store 3 (Operand.tmp 78) (Operand.tmp 77), type := 0, pos := "ref.go:31", after := #[{ on := 9, ground := Ground.data }, { on := 8, ground := Ground.data }, { on := 0, ground := Ground.phase }, { on := 1, ground := Ground.phase }, { on := 2, ground := Ground.phase }, { on := 3, ground := Ground.phase }, { on := 4, ground := Ground.phase }, { on := 5, ground := Ground.phase }, { on := 6, ground := Ground.phase }, { on := 7, ground := Ground.phase }, { on := 8, ground := Ground.phase }], guard := none }) rfl (fun K hK => ?step11) ?more11
        case more11 => exact AllReadyH.nil
        go_simp
        refine hK.out _ _ ?hs11 (fun hHeld => ?go11)
        case hs11 => exact ⟨by go_simp, y1, y2⟩
        clear hK K
        try simp only [Act.put, List.setIfInBounds_toArray, List.set_cons_zero, List.set_cons_succ]
        refine wpAnyH_done (by kernel_rfl) ?_ _
        clear hHeld
        go_wp2
        refine wp_region_held_drew (S := (fun w' : World => w'.cell? ⟨R, 1, none⟩ = some (.slice (some ⟨bm, 0, none⟩) P cm) ∧ w'.cell? ⟨v1.heap.size, 1, none⟩ = some (.int .i64 (p2 : Int)) ∧ w'.cell? ⟨v1.heap.size, 2, none⟩ = some (.int .i64 xn))) (by kernel_rfl) ⟨by go_simp, y1, y2⟩ (fun hHeld => ?_)
        refine wpAnyH_take (i := 0) (oi := { dst := some 79, op := Op.fieldAddr 36 (Operand.tmp 6) 1, type := 0, pos := "ref.go:32", after := #[], guard := none }) (v := ?_) rfl (by kernel_rfl) (by kernel_rfl) (by kernel_rfl) (fun _ _ _ h => h) (Or.inl ⟨by rfl, ?hy12⟩) (by assumption) ?rest12
        case hy12 =>
          intro w hSw
          try dsimp only at hSw
          go_simp
          all_goals with_reducible rfl
        try simp only [Act.put, List.setIfInBounds_toArray, List.set_cons_zero, List.set_cons_succ]
        refine wpAnyH_take (i := 1) (oi := { dst := some 80, op := Op.load 34 (Operand.tmp 79), type := 34, pos := "ref.go:32", after := #[{ on := 0, ground := Ground.data }], guard := none }) (v := ?_) rfl (by kernel_rfl) (by kernel_rfl) (by kernel_rfl) (fun _ _ _ h => h) (Or.inl ⟨by rfl, ?hy13⟩) (by assumption) ?rest13
        case hy13 =>
          intro w hSw
          try dsimp only at hSw
          go_simp
          all_goals with_reducible rfl
        try simp only [Act.put, List.setIfInBounds_toArray, List.set_cons_zero, List.set_cons_succ]
        refine wpAnyH_take (i := 2) (oi := { dst := some 81, op := Op.fieldAddr 65 (Operand.tmp 13) 1, type := 0, pos := "ref.go:32", after := #[], guard := none }) (v := ?_) rfl (by kernel_rfl) (by kernel_rfl) (by kernel_rfl) (fun _ _ _ h => h) (Or.inl ⟨by rfl, ?hy14⟩) (by assumption) ?rest14
        case hy14 =>
          intro w hSw
          try dsimp only at hSw
          go_simp
          all_goals with_reducible rfl
        try simp only [Act.put, List.setIfInBounds_toArray, List.set_cons_zero, List.set_cons_succ]
        refine wpAnyH_take (i := 3) (oi := { dst := some 82, op := Op.load 3 (Operand.tmp 81), type := 3, pos := "ref.go:32", after := #[{ on := 2, ground := Ground.data }], guard := none }) (v := ?_) rfl (by kernel_rfl) (by kernel_rfl) (by kernel_rfl) (fun _ _ _ h => h) (Or.inl ⟨by rfl, ?hy15⟩) (by assumption) ?rest15
        case hy15 =>
          intro w hSw
          try dsimp only at hSw
          go_simp
          all_goals with_reducible rfl
        try simp only [Act.put, List.setIfInBounds_toArray, List.set_cons_zero, List.set_cons_succ]
        refine wpAnyH_take (i := 4) (oi := { dst := some 83, op := Op.indexAddr 34 (Operand.tmp 80) (Operand.tmp 82), type := 0, pos := "ref.go:32", after := #[{ on := 1, ground := Ground.data }, { on := 3, ground := Ground.data }], guard := none }) (v := ?_) rfl (by kernel_rfl) (by kernel_rfl) (by kernel_rfl) (fun _ _ _ h => h) (Or.inl ⟨by rfl, ?hy16⟩) (by assumption) ?rest16
        case hy16 =>
          intro w hSw
          try dsimp only at hSw
          go_simp
          all_goals with_reducible rfl
        try simp only [Act.put, List.setIfInBounds_toArray, List.set_cons_zero, List.set_cons_succ]
        refine wpAnyH_take (i := 6) (oi := { dst := some 85, op := Op.fieldAddr 65 (Operand.tmp 13) 2, type := 0, pos := "ref.go:32", after := #[], guard := none }) (v := ?_) rfl (by kernel_rfl) (by kernel_rfl) (by kernel_rfl) (fun _ _ _ h => h) (Or.inl ⟨by rfl, ?hy17⟩) (by assumption) ?rest17
        case hy17 =>
          intro w hSw
          try dsimp only at hSw
          go_simp
          all_goals with_reducible rfl
        try simp only [Act.put, List.setIfInBounds_toArray, List.set_cons_zero, List.set_cons_succ]
        refine wpAnyH_take (i := 7) (oi := { dst := some 86, op := Op.load 3 (Operand.tmp 85), type := 3, pos := "ref.go:32", after := #[{ on := 6, ground := Ground.data }], guard := none }) (v := ?_) rfl (by kernel_rfl) (by kernel_rfl) (by kernel_rfl) (fun _ _ _ h => h) (Or.inl ⟨by rfl, ?hy18⟩) (by assumption) ?rest18
        case hy18 =>
          intro w hSw
          try dsimp only at hSw
          go_simp
          all_goals with_reducible rfl
        try simp only [Act.put, List.setIfInBounds_toArray, List.set_cons_zero, List.set_cons_succ]
        refine wpAnyH_ready (rs := [5]) (by kernel_rfl) (by simp) ?_
        refine AllReadyH.cons (o := { dst := some 84, op := Op.load 3 (Operand.tmp 83), type := 3, pos := "ref.go:32", after := #[{ on := 4, ground := Ground.data }], guard := none }) rfl (fun K hK => ?step19) ?more19
        case more19 => exact AllReadyH.nil
        go_simp
        refine hK.out _ _ ?hs19 (fun hHeld => ?go19)
        case hs19 => assumption
        clear hK K
        try simp only [Act.put, List.setIfInBounds_toArray, List.set_cons_zero, List.set_cons_succ]
        refine wpAnyH_take (i := 8) (oi := { dst := some 87, op := Op.binOp BinOp.add 3 (Operand.tmp 84) (Operand.tmp 86) 3, type := 3, pos := "ref.go:32", after := #[{ on := 5, ground := Ground.data }, { on := 7, ground := Ground.data }], guard := none }) (v := ?_) rfl (by kernel_rfl) (by kernel_rfl) (by kernel_rfl) (fun _ _ _ h => h) (Or.inl ⟨by rfl, ?hy20⟩) (by assumption) ?rest20
        case hy20 =>
          intro w hSw
          try dsimp only at hSw
          go_simp
          all_goals with_reducible rfl
        try simp only [Act.put, List.setIfInBounds_toArray, List.set_cons_zero, List.set_cons_succ]
        refine wpAnyH_take (i := 9) (oi := { dst := some 88, op := Op.indexAddr 34 (Operand.tmp 80) (Operand.tmp 82), type := 0, pos := "ref.go:32", after := #[{ on := 1, ground := Ground.data }, { on := 3, ground := Ground.data }, { on := 0, ground := Ground.phase }, { on := 1, ground := Ground.phase }, { on := 2, ground := Ground.phase }, { on := 3, ground := Ground.phase }, { on := 4, ground := Ground.phase }, { on := 5, ground := Ground.phase }, { on := 6, ground := Ground.phase }, { on := 7, ground := Ground.phase }, { on := 8, ground := Ground.phase }], guard := none }) (v := ?_) rfl (by kernel_rfl) (by kernel_rfl) (by kernel_rfl) (fun _ _ _ h => h) (Or.inl ⟨by rfl, ?hy21⟩) (by assumption) ?rest21
        case hy21 =>
          intro w hSw
          try dsimp only at hSw
          go_simp
          all_goals with_reducible rfl
        try simp only [Act.put, List.setIfInBounds_toArray, List.set_cons_zero, List.set_cons_succ]
        refine wpAnyH_ready (rs := [10]) (by kernel_rfl) (by simp) ?_
        refine AllReadyH.cons (o := { dst := none, op := Op.store 3 (Operand.tmp 88) (Operand.tmp 87), type := 0, pos := "ref.go:32", after := #[{ on := 9, ground := Ground.data }, { on := 8, ground := Ground.data }, { on := 0, ground := Ground.phase }, { on := 1, ground := Ground.phase }, { on := 2, ground := Ground.phase }, { on := 3, ground := Ground.phase }, { on := 4, ground := Ground.phase }, { on := 5, ground := Ground.phase }, { on := 6, ground := Ground.phase }, { on := 7, ground := Ground.phase }, { on := 8, ground := Ground.phase }], guard := none }) rfl (fun K hK => ?step22) ?more22
        case more22 => exact AllReadyH.nil
        go_simp
        refine hK.out _ _ ?hs22 (fun hHeld => ?go22)
        case hs22 => exact ⟨by go_simp, z1, z2⟩
        clear hK K
        try simp only [Act.put, List.setIfInBounds_toArray, List.set_cons_zero, List.set_cons_succ]
        refine wpAnyH_done (by kernel_rfl) ?_ _
        clear hHeld
        go_wp2
        go_roundw
        case rel => exact ⟨k + 1, a, nf, c, by omega, by go_num, rfl, HR4.out.go (by first | exact ((Below.refl _ _).alloc (Nat.le_refl _) _).drew.drew | exact ((Below.refl _ _).alloc (Nat.le_refl _) _).drew), Hnf2⟩
        case measure => simp [intOf]; omega
    · have hge1 : ¬ (k : Int) < (nq : Int) := by omega
      have e1 : s.q.take k = s.q := List.take_of_length_le (by rw [← Hnq.out]; omega)
      have e2 : leftTo t s.q k = s.q.filter (late t) := by unfold leftTo; rw [e1, List.drop_of_length_le (by rw [← Hnq.out]; omega), List.append_nil]
      rw [e1] at hr Hnf
      rw [e2] at hr
      have Hr := Lib.hid hr
      clear hr hEv e1 e2
      go_wp2
      exact And.intro rfl (Hex.out a nf c _ _ _ _ _ _ _ _ _ _ _ _ _ _ _ _ _ _ _ _ _ _ _ _ _ _ _ _ _ _ _ _ _ _ _ _ _ _ _ _ _ Hr.out Hnf.out)
end Go.Proofs.Ytpfdmmidomofdaa
