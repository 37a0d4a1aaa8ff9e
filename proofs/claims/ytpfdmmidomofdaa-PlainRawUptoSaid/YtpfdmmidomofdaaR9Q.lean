/-
  The document's own run: what a firing gives, under way.
  Conditions: none beyond the theorem's own.
-/
import Derived.Test.YtpfdmmidomofdaaR9A
namespace Go.Proofs.Ytpfdmmidomofdaa
open Go.RowKit
set_option linter.unusedVariables false

noncomputable def outs1Body : Code := ((Try.f16.body.map loopsR).getD []).getD 6 .skip

set_option maxRecDepth 1000000 in
set_option maxHeartbeats 8000000 in
theorem outs1_loop {w0 w1 : World} {R bx : Nat} {n : Nt} {t : Int} {s : St} {x : Tr} {lg : List (Int × Int)} {more : List Row} {ao : Option Addr} {no co : Nat} {v0 v2 v3 v4 : Value} {m : List Int} {aq : Option Addr} {nq cq : Nat} {c0 c1 c2 c3 c4 c5 c7 c11 c12 c13 c14 c15 c16 c18 c20 c21 c22 c23 c24 c25 c26 c27 c28 c29 c30 c31 c32 c33 c34 c35 c36 c37 c38 c39 c40 c41 c42 c43 c44 c45 c46 c47 c48 c49 c50 c51 c52 c53 c54 c55 c56 c57 c58 c59 c60 c61 c62 c63 c64 c65 c66 c67 c68 c69 c70 c71 c72 c73 c74 c75 c76 c77 c78 c79 c80 c81 c82 c83 c84 c85 c86 c87 c88 c89 c90 c91 c92 c93 c94 c95 c96 c97 c98 c99 c100 c101 c102 c103 c104 c105 c106 c107 c108 c109 c110 c111 c112 c113 c114 c115 c116 c117 c118 c119 c120 c121 c122 c123 c124 c125 c126 c127 c128 c129 c130 c131 c132 c133 c134 c135 c136 c137 c138 c139 c140 c141 c142 c143 c144 c145 c146 c147 c148 c149 c150 c151 c152 c153 c154 c155 c156 c157 c158 c159 c160 c161 c162 c163 c164 c165 c166 c167 c168 c169 c170 c171 c172 c173 c174 c175 c176 c177 c178 c179 c180 c181 c182 c183 c184 c185 c186 c187 c188 c189 c190 c191 c192 c193 c194 c195 c196 c197 c198 c199 c200 c201 c202 c203 c204 c205 c206 c207 c208 c209 c210 c211 c212 c213 c214 c215 c216 c217 c218 c219 c220 c221 c222 c223 c224 c225 c226 c227 c228 c229 c230 c231 c232 c233 c234 c235 c236 c237 c238 c239 c240 c241 c242 c243 c244 c245 c246 c247 c248 c249 c250 c251 c252 c253 c254 c255 c256 c257 c258 c259 c260 c261 c262 c263 c264 c265 c266 c267 c268 c269 : Value} {Nx Mx : Act → World → Prop}
    (hno : no = x.out.length) (hn : NOk n) (hI : Inv n t s) (hx : x ∈ n.trans) (hA : ArcsAt w0 (.slice ao no co) x.out) (hd : 0 < x.delay) (hml : m.length = s.m.length) (hnq : nq = s.q.length) (hbx : boxRow bx 46 [v0, .int .i64 x.delay, v2, v3, v4, .slice ao no co] ∈ more) (hR : RefAt w0 w1 R t lg m (wayL s.m.length s.q) (evRow (.slice aq nq cq) s.q :: more))
    (hexit : ∀ (a : Option Addr) (nr c : Nat) (u19 u20 u185 u186 u187 u188 u189 u190 u191 u192 u193 u194 u195 u196 u197 u198 u199 u200 u201 u202 u203 u204 u205 u206 u207 u208 u209 u210 u211 u212 u213 u214 u215 u216 u217 u218 u219 u220 u221 u222 u223 u224 u225 u226 u227 u228 u229 u230 u231 u232 u233 u234 u235 u236 u237 u238 u239 u240 u241 : Value) (W' : World), RefAt w0 W' R t lg m (wayL s.m.length (s.q ++ outs t x.delay x.out)) (evRow (.slice a nr c) (s.q ++ outs t x.delay x.out) :: more) → nr = (s.q ++ outs t x.delay x.out).length → Nx ⟨(c0 :: c1 :: c2 :: c3 :: c4 :: c5 :: (.pointer (some ⟨R, 0, none⟩)) :: c7 :: (.slice a nr c) :: (.int .i64 t) :: (.bool false) :: c11 :: c12 :: c13 :: c14 :: c15 :: c16 :: (.pointer (some ⟨bx, 0, none⟩)) :: c18 :: u19 :: u20 :: c21 :: c22 :: c23 :: c24 :: c25 :: c26 :: c27 :: c28 :: c29 :: c30 :: c31 :: c32 :: c33 :: c34 :: c35 :: c36 :: c37 :: c38 :: c39 :: c40 :: c41 :: c42 :: c43 :: c44 :: c45 :: c46 :: c47 :: c48 :: c49 :: c50 :: c51 :: c52 :: c53 :: c54 :: c55 :: c56 :: c57 :: c58 :: c59 :: c60 :: c61 :: c62 :: c63 :: c64 :: c65 :: c66 :: c67 :: c68 :: c69 :: c70 :: c71 :: c72 :: c73 :: c74 :: c75 :: c76 :: c77 :: c78 :: c79 :: c80 :: c81 :: c82 :: c83 :: c84 :: c85 :: c86 :: c87 :: c88 :: c89 :: c90 :: c91 :: c92 :: c93 :: c94 :: c95 :: c96 :: c97 :: c98 :: c99 :: c100 :: c101 :: c102 :: c103 :: c104 :: c105 :: c106 :: c107 :: c108 :: c109 :: c110 :: c111 :: c112 :: c113 :: c114 :: c115 :: c116 :: c117 :: c118 :: c119 :: c120 :: c121 :: c122 :: c123 :: c124 :: c125 :: c126 :: c127 :: c128 :: c129 :: c130 :: c131 :: c132 :: c133 :: c134 :: c135 :: c136 :: c137 :: c138 :: c139 :: c140 :: c141 :: c142 :: c143 :: c144 :: c145 :: c146 :: c147 :: c148 :: c149 :: c150 :: c151 :: c152 :: c153 :: c154 :: c155 :: c156 :: c157 :: c158 :: c159 :: c160 :: c161 :: c162 :: c163 :: c164 :: c165 :: c166 :: c167 :: c168 :: c169 :: c170 :: c171 :: c172 :: c173 :: c174 :: c175 :: c176 :: c177 :: c178 :: c179 :: c180 :: c181 :: c182 :: c183 :: c184 :: u185 :: u186 :: u187 :: u188 :: u189 :: u190 :: u191 :: u192 :: u193 :: u194 :: u195 :: u196 :: u197 :: u198 :: u199 :: u200 :: u201 :: u202 :: u203 :: u204 :: u205 :: u206 :: u207 :: u208 :: u209 :: u210 :: u211 :: u212 :: u213 :: u214 :: u215 :: u216 :: u217 :: u218 :: u219 :: u220 :: u221 :: u222 :: u223 :: u224 :: u225 :: u226 :: u227 :: u228 :: u229 :: u230 :: u231 :: u232 :: u233 :: u234 :: u235 :: u236 :: u237 :: u238 :: u239 :: u240 :: u241 :: c242 :: c243 :: c244 :: c245 :: c246 :: c247 :: c248 :: c249 :: c250 :: c251 :: c252 :: c253 :: c254 :: c255 :: c256 :: c257 :: c258 :: c259 :: c260 :: c261 :: c262 :: c263 :: c264 :: c265 :: c266 :: c267 :: c268 :: c269 :: []).toArray, []⟩ W')
    : Code.wp Try.prog (Code.loop outs1Body) (outPost 12 Nx Mx) ⟨(c0 :: c1 :: c2 :: c3 :: c4 :: c5 :: (.pointer (some ⟨R, 0, none⟩)) :: c7 :: (.slice aq nq cq) :: (.int .i64 t) :: (.bool false) :: c11 :: c12 :: c13 :: c14 :: c15 :: c16 :: (.pointer (some ⟨bx, 0, none⟩)) :: c18 :: (.int .i64 0) :: c20 :: c21 :: c22 :: c23 :: c24 :: c25 :: c26 :: c27 :: c28 :: c29 :: c30 :: c31 :: c32 :: c33 :: c34 :: c35 :: c36 :: c37 :: c38 :: c39 :: c40 :: c41 :: c42 :: c43 :: c44 :: c45 :: c46 :: c47 :: c48 :: c49 :: c50 :: c51 :: c52 :: c53 :: c54 :: c55 :: c56 :: c57 :: c58 :: c59 :: c60 :: c61 :: c62 :: c63 :: c64 :: c65 :: c66 :: c67 :: c68 :: c69 :: c70 :: c71 :: c72 :: c73 :: c74 :: c75 :: c76 :: c77 :: c78 :: c79 :: c80 :: c81 :: c82 :: c83 :: c84 :: c85 :: c86 :: c87 :: c88 :: c89 :: c90 :: c91 :: c92 :: c93 :: c94 :: c95 :: c96 :: c97 :: c98 :: c99 :: c100 :: c101 :: c102 :: c103 :: c104 :: c105 :: c106 :: c107 :: c108 :: c109 :: c110 :: c111 :: c112 :: c113 :: c114 :: c115 :: c116 :: c117 :: c118 :: c119 :: c120 :: c121 :: c122 :: c123 :: c124 :: c125 :: c126 :: c127 :: c128 :: c129 :: c130 :: c131 :: c132 :: c133 :: c134 :: c135 :: c136 :: c137 :: c138 :: c139 :: c140 :: c141 :: c142 :: c143 :: c144 :: c145 :: c146 :: c147 :: c148 :: c149 :: c150 :: c151 :: c152 :: c153 :: c154 :: c155 :: c156 :: c157 :: c158 :: c159 :: c160 :: c161 :: c162 :: c163 :: c164 :: c165 :: c166 :: c167 :: c168 :: c169 :: c170 :: c171 :: c172 :: c173 :: c174 :: c175 :: c176 :: c177 :: c178 :: c179 :: c180 :: c181 :: c182 :: c183 :: c184 :: c185 :: c186 :: c187 :: c188 :: c189 :: c190 :: c191 :: c192 :: c193 :: c194 :: c195 :: c196 :: c197 :: c198 :: c199 :: c200 :: c201 :: c202 :: c203 :: c204 :: c205 :: c206 :: c207 :: c208 :: c209 :: c210 :: c211 :: c212 :: c213 :: c214 :: c215 :: c216 :: c217 :: c218 :: c219 :: c220 :: c221 :: c222 :: c223 :: c224 :: c225 :: c226 :: c227 :: c228 :: c229 :: c230 :: c231 :: c232 :: c233 :: c234 :: c235 :: c236 :: c237 :: c238 :: c239 :: c240 :: c241 :: c242 :: c243 :: c244 :: c245 :: c246 :: c247 :: c248 :: c249 :: c250 :: c251 :: c252 :: c253 :: c254 :: c255 :: c256 :: c257 :: c258 :: c259 :: c260 :: c261 :: c262 :: c263 :: c264 :: c265 :: c266 :: c267 :: c268 :: c269 :: []).toArray, []⟩ w1 := by
  conv => arg 2; arg 1; whnf
  have Hno := Lib.hid hno
  have HN := Lib.hid hn
  have HI := Lib.hid hI
  have Hx := Lib.hid hx
  have HA := Lib.hid hA
  have HR := Lib.hid hR
  have Hex := Lib.hid hexit
  have hmax : no ≤ 9223372036854775807 := by have := RowAt.max hA; omega
  have Hd := Lib.hid hd
  have Hbx := Lib.hid hbx
  have Hnq := Lib.hid hnq
  have Hml := Lib.hid hml
  clear hno hn hI hx hA hR hexit hd hbx hnq hml
  go_loopw [8, 10, 19] (fun q o i wr => ∃ (k : Nat) (a : Option Addr) (nr c : Nat), k ≤ no ∧ i = .int .i64 k ∧ o = .bool false ∧ q = .slice a nr c ∧ RefAt w0 wr R t lg m (wayL s.m.length (s.q ++ outs t x.delay (x.out.take k))) (evRow (.slice a nr c) (s.q ++ outs t x.delay (x.out.take k)) :: more) ∧ Hid (nr = (s.q ++ outs t x.delay (x.out.take k)).length)) (fun _ _ i _ => no - (intOf i).toNat)
  case atStart => exact ⟨0, aq, nq, cq, by omega, rfl, rfl, rfl, by have := HR.out; simpa [outs] using this, Lib.hid (by rw [Hnq.out]; simp [outs])⟩
  case round =>
    rename World => v1w
    obtain ⟨k, a, nr, c, hk, rfl, rfl, rfl, hr, Hnr⟩ := hrel
    have b5 : v1w.cell? ⟨bx, 5, none⟩ = some (.slice ao no co) := boxRow.cell (hr.mem (r := boxRow bx 46 [v0, .int .i64 x.delay, v2, v3, v4, .slice ao no co]) (by first | exact Hbx.out | (rw [List.mem_cons]; exact .inr Hbx.out))) rfl
    have b1 : v1w.cell? ⟨bx, 1, none⟩ = some (.int .i64 x.delay) := boxRow.cell (hr.mem (r := boxRow bx 46 [v0, .int .i64 x.delay, v2, v3, v4, .slice ao no co]) (by first | exact Hbx.out | (rw [List.mem_cons]; exact .inr Hbx.out))) rfl
    have bl : bx < v1w.heap.size := (boxRow.lt (hr.mem (r := boxRow bx 46 [v0, .int .i64 x.delay, v2, v3, v4, .slice ao no co]) (by first | exact Hbx.out | (rw [List.mem_cons]; exact .inr Hbx.out)))).2
    have hRl := hr.lt.2
    have hd0 := Hd.out
    by_cases hlt : k < no
    · obtain ⟨⟨xx, y⟩, hxx⟩ := at_lt (l := x.out) (k := k) (by rw [← Hno.out]; exact hlt)
      have hlti : (k : Int) < (no : Int) := by omega
      obtain ⟨ba, off, rfl, hbw1, e0, e1⟩ := ArcsAt.at_ (RowAt.below HA.out hr.low) hxx
      obtain ⟨p, hp0, hp, z, hz, hz0, hy1, hz1, hset⟩ := way_more (t := t) HN.out HI.out Hx.out hxx
      have hsn := outs_snoc t x.delay hxx
      simp only at hp0 hy1 hz1 hset e0 e1 hsn
      subst hp0
      have hbox := hr.add ((Below.refl _ _).alloc (Nat.le_refl _) (.cells #[.int .i64 (p : Int), .int .i64 y] 52)) (boxRow.new _ v1w 52 #[.int .i64 (p : Int), .int .i64 y] hr.low.size) (fun k e => by injection e with e; subst e; exact Nat.le_refl _)
      have Hbox := Lib.hid hbox
      obtain ⟨bA, hbA⟩ : ∃ q, q = v1w.heap.size := ⟨_, rfl⟩
      have HbA := Lib.hid hbA
      obtain ⟨q0, hq0⟩ : ∃ q, q = s.q ++ outs t x.delay (x.out.take k) := ⟨_, rfl⟩
      have hq1 : s.q ++ outs t x.delay (x.out.take (k + 1)) = q0 ++ [⟨t + x.delay, (p : Int), y⟩] := by rw [hsn, hq0, List.append_assoc]
      have Hq1 := Lib.hid hq1
      have hql : q0.length ≤ 1000000 := by
        have h1 := HI.out.ql
        have h2 := HI.out.ll
        have h3 := (HN.out.len x Hx.out).2.2
        have h4 : (x.out.take k).length ≤ x.out.length := List.length_take_le' _ _
        have h5 : (outs t x.delay (x.out.take k)).length = (x.out.take k).length := by unfold outs; simp
        rw [hq0, List.length_append]; omega
      have hdb := HN.out.dly x Hx.out
      have htb := HI.out.tb
      have hll := HI.out.ll
      rw [← hq0] at Hbox hset hz Hnr
      have Hgo : Hid (∀ V : World, RefAt w0 V R t lg m (wayL s.m.length q0) (evRow (.slice a nr c) q0 :: more ++ [boxRow bA 52 [.int .i64 (p : Int), .int .i64 y]]) → ∃ bw cw, V.cell? ⟨R, 2, none⟩ = some (.slice (some ⟨bw, 0, none⟩) s.m.length cw) ∧ V.cell? ⟨bw, p, none⟩ = some (.int .i64 z) ∧ V.frozen? ⟨bw, p, none⟩ = false ∧ bw < V.heap.size ∧ R < V.heap.size ∧ RefAt w0 (V.setCell ⟨bw, p, none⟩ (.int .i64 (z + y))) R t lg m (wayL s.m.length (q0 ++ [⟨t + x.delay, (p : Int), y⟩])) (evRow (.slice a nr c) q0 :: more ++ [boxRow bA 52 [.int .i64 (p : Int), .int .i64 y]])) := Lib.hid (fun V hV => by
        obtain ⟨bm, cm, bw, cw, -, k2, -, hW, -, n2, -, -, tW, -, -⟩ := hV.both (by rw [Hml.out]; omega) (by rw [wayL_size]; omega)
        have h2 := tW V (Below.refl _ _) p (z + y) (by rw [wayL_size]; exact hp)
        rw [← hset, hq1] at h2
        rw [wayL_size] at k2
        exact ⟨bw, cw, k2, hW.cell hz, hW.froz p, hW.lt.2, hV.lt.2, h2⟩)
      have Hbc : Hid (∀ V m2 wy q2 vv2, RefAt w0 V R t lg m2 wy (evRow vv2 q2 :: more ++ [boxRow bA 52 [.int .i64 (p : Int), .int .i64 y]]) → V.cell? ⟨bA, 0, none⟩ = some (.int .i64 (p : Int)) ∧ V.cell? ⟨bA, 1, none⟩ = some (.int .i64 y) ∧ bA < V.heap.size ∧ V.cell? ⟨bx, 1, none⟩ = some (.int .i64 x.delay) ∧ bx < V.heap.size) := Lib.hid (fun V m2 wy q2 vv2 hV => by
        have hB := hV.mem (r := boxRow bA 52 [.int .i64 (p : Int), .int .i64 y]) (by simp)
        have hT := hV.mem (r := boxRow bx 46 [v0, .int .i64 x.delay, v2, v3, v4, .slice (some ⟨ba, off, none⟩) no co]) (by rw [List.mem_append, List.mem_cons]; exact .inl (.inr Hbx.out))
        exact ⟨boxRow.cell hB rfl, boxRow.cell hB rfl, (boxRow.lt hB).2, boxRow.cell hT rfl, (boxRow.lt hT).2⟩)
      obtain ⟨P, hP⟩ : ∃ P, P = s.m.length := ⟨_, rfl⟩
      rw [← hP] at Hgo hp Hbox
      have HP := Lib.hid hP
      obtain ⟨dl, hdl⟩ : ∃ d, d = x.delay := ⟨_, rfl⟩
      have Hdl := Lib.hid hdl
      have hdlb : (dl == 0) = false := by rw [hdl]; simp; omega
      rw [← hdl] at Hgo Hbc b1 hdb Hq1
      have hpi : (p : Int) < (P : Int) := by omega
      have hwr : IntKind.i64.wrap (z + y) = z + y := IntWalk.i64_in _ (by omega)
      have hwr2 : IntKind.i64.wrap (t + dl) = t + dl := IntWalk.i64_in _ (by omega)
      have hb1 : -9223372036854775808 ≤ z + y := by omega
      have hb2 : z + y ≤ 9223372036854775807 := by omega
      have hb3 : -9223372036854775808 ≤ t + dl := by omega
      have hb4 : t + dl ≤ 9223372036854775807 := by omega
      clear hxx hz hz0 hy1 hz1 hset hr hP hsn hq1 hq0 hdl hdb htb hll hd0 hbox
      rw [← HbA.out] at Hbox
      go_upto_region 48 with (fail)
      rw [← HbA.out]
      clear hbA HbA b1 b5 bl hRl e0 e1 hbw1
      revert Hbox
      generalize (v1w.alloc (.cells #[.int .i64 (p : Int), .int .i64 y] 52)) = V
      intro Hbox
      obtain ⟨bw, cw, k2, d0, f0, m0, r0, h2⟩ := Hgo.out V Hbox.out
      obtain ⟨a0, a1, al, x1, xl⟩ := Hbc.out V _ _ _ _ Hbox.out
      have H3 := Lib.hid (h2.go (Below.refl _ _).drew)
      clear h2 Hgo Hbox
      go_wp2
      go_region
      clear k2 d0 f0 m0 r0 a0 a1 al x1 xl
      revert H3
      generalize (V.setCell ⟨bw, p, none⟩ (.int .i64 (z + y))).drew = V3
      intro H3
      obtain ⟨a0, a1, al, x1, xl⟩ := Hbc.out V3 _ _ _ _ H3.out
      have h3 := H3.out
      rw [List.cons_append] at h3
      obtain ⟨a', n', c', w', hrun, h4, hn'⟩ := RefAt.pushE (pre := []) (post := more ++ [boxRow bA 52 [.int .i64 (p : Int), .int .i64 y]]) h3 hql 61 ⟨t + dl, (p : Int), y⟩
      simp only at hrun
      have h5 := h4.sub (more' := evRow (.slice a' n' c') (q0 ++ [⟨t + dl, (p : Int), y⟩]) :: more) (by rw [List.nil_append]; exact List.Sublist.cons_cons _ (List.sublist_append_left _ _))
      rw [← Hq1.out] at h5 hn'
      have H5 := Lib.hid h5
      have Hn5 := Lib.hid hn'
      clear h3 h4 h5 hn' H3 Hbc hql
      go_wp2_with (at_builtin; refine wpList_append_eq rfl (.tmp 230) (.tmp 240) 61 rfl rfl rfl hrun ?_)
      go_roundw
      case rel => exact ⟨k + 1, a', n', c', by omega, by go_num, rfl, rfl, by have := H5.out; rw [HP.out, Hdl.out] at this; exact this, by have := Hn5.out; rw [Hdl.out] at this; exact Lib.hid this⟩
      case measure => simp [intOf]; omega
    · have hge : ¬ (k : Int) < (no : Int) := by omega
      rw [List.take_of_length_le (by rw [← Hno.out]; omega)] at hr Hnr
      have Hr := Lib.hid hr
      clear hr
      go_wp2
      exact And.intro rfl (Hex.out a nr c _ _ _ _ _ _ _ _ _ _ _ _ _ _ _ _ _ _ _ _ _ _ _ _ _ _ _ _ _ _ _ _ _ _ _ _ _ _ _ _ _ _ _ _ _ _ _ _ _ _ _ _ _ _ _ _ _ _ _ _ Hr.out Hnr.out)
end Go.Proofs.Ytpfdmmidomofdaa
