/-
  The document's own run: what a firing gives at once.
  Conditions: none beyond the theorem's own.
-/
import Derived.Test.YtpfdmmidomofdaaR9A
namespace Go.Proofs.Ytpfdmmidomofdaa
open Go.RowKit
set_option linter.unusedVariables false

noncomputable def outs0Body : Code := ((Try.f16.body.map loopsR).getD []).getD 6 .skip

set_option maxRecDepth 1000000 in
set_option maxHeartbeats 8000000 in
theorem outs0_loop {w0 w1 : World} {R bx : Nat} {n : Nt} {t : Int} {s : St} {x : Tr} {lg : List (Int × Int)} {more : List Row} {ao : Option Addr} {no co : Nat} {v0 v2 v3 v4 : Value} {way : List Int} {vq : Value} {c0 c1 c2 c3 c4 c5 c7 c11 c12 c13 c14 c15 c16 c18 c20 c21 c22 c23 c24 c25 c26 c27 c28 c29 c30 c31 c32 c33 c34 c35 c36 c37 c38 c39 c40 c41 c42 c43 c44 c45 c46 c47 c48 c49 c50 c51 c52 c53 c54 c55 c56 c57 c58 c59 c60 c61 c62 c63 c64 c65 c66 c67 c68 c69 c70 c71 c72 c73 c74 c75 c76 c77 c78 c79 c80 c81 c82 c83 c84 c85 c86 c87 c88 c89 c90 c91 c92 c93 c94 c95 c96 c97 c98 c99 c100 c101 c102 c103 c104 c105 c106 c107 c108 c109 c110 c111 c112 c113 c114 c115 c116 c117 c118 c119 c120 c121 c122 c123 c124 c125 c126 c127 c128 c129 c130 c131 c132 c133 c134 c135 c136 c137 c138 c139 c140 c141 c142 c143 c144 c145 c146 c147 c148 c149 c150 c151 c152 c153 c154 c155 c156 c157 c158 c159 c160 c161 c162 c163 c164 c165 c166 c167 c168 c169 c170 c171 c172 c173 c174 c175 c176 c177 c178 c179 c180 c181 c182 c183 c184 c185 c186 c187 c188 c189 c190 c191 c192 c193 c194 c195 c196 c197 c198 c199 c200 c201 c202 c203 c204 c205 c206 c207 c208 c209 c210 c211 c212 c213 c214 c215 c216 c217 c218 c219 c220 c221 c222 c223 c224 c225 c226 c227 c228 c229 c230 c231 c232 c233 c234 c235 c236 c237 c238 c239 c240 c241 c242 c243 c244 c245 c246 c247 c248 c249 c250 c251 c252 c253 c254 c255 c256 c257 c258 c259 c260 c261 c262 c263 c264 c265 c266 c267 c268 c269 : Value} {Nx Mx : Act → World → Prop}
    (hno : no = x.out.length) (hn : NOk n) (hI : Inv n t s) (hx : x ∈ n.trans) (hA : ArcsAt w0 (.slice ao no co) x.out) (hm : mayB s.m x.inn x.nt = true) (hd : x.delay = 0) (hway : 0 < s.m.length → 0 < way.length) (hbx : boxRow bx 46 [v0, .int .i64 x.delay, v2, v3, v4, .slice ao no co] ∈ more) (hR : RefAt w0 w1 R t lg (takeL x.inn s.m) way more)
    (hexit : ∀  (u19 u20 u185 u186 u187 u188 u189 u190 u191 u192 u193 u194 u195 u196 u197 u198 u199 u200 u201 u202 u203 u204 u205 u206 u207 u208 u209 u210 u211 u212 u213 u214 u215 u216 u217 u218 u219 u220 u221 u222 u223 u224 u225 u226 u227 u228 u229 u230 u231 u232 u233 u234 u235 u236 u237 u238 u239 u240 u241 : Value) (W' : World), RefAt w0 W' R t lg ((outs t 0 x.out).foldl addE (takeL x.inn s.m)) way more → Nx ⟨(c0 :: c1 :: c2 :: c3 :: c4 :: c5 :: (.pointer (some ⟨R, 0, none⟩)) :: c7 :: vq :: (.int .i64 t) :: (.bool false) :: c11 :: c12 :: c13 :: c14 :: c15 :: c16 :: (.pointer (some ⟨bx, 0, none⟩)) :: c18 :: u19 :: u20 :: c21 :: c22 :: c23 :: c24 :: c25 :: c26 :: c27 :: c28 :: c29 :: c30 :: c31 :: c32 :: c33 :: c34 :: c35 :: c36 :: c37 :: c38 :: c39 :: c40 :: c41 :: c42 :: c43 :: c44 :: c45 :: c46 :: c47 :: c48 :: c49 :: c50 :: c51 :: c52 :: c53 :: c54 :: c55 :: c56 :: c57 :: c58 :: c59 :: c60 :: c61 :: c62 :: c63 :: c64 :: c65 :: c66 :: c67 :: c68 :: c69 :: c70 :: c71 :: c72 :: c73 :: c74 :: c75 :: c76 :: c77 :: c78 :: c79 :: c80 :: c81 :: c82 :: c83 :: c84 :: c85 :: c86 :: c87 :: c88 :: c89 :: c90 :: c91 :: c92 :: c93 :: c94 :: c95 :: c96 :: c97 :: c98 :: c99 :: c100 :: c101 :: c102 :: c103 :: c104 :: c105 :: c106 :: c107 :: c108 :: c109 :: c110 :: c111 :: c112 :: c113 :: c114 :: c115 :: c116 :: c117 :: c118 :: c119 :: c120 :: c121 :: c122 :: c123 :: c124 :: c125 :: c126 :: c127 :: c128 :: c129 :: c130 :: c131 :: c132 :: c133 :: c134 :: c135 :: c136 :: c137 :: c138 :: c139 :: c140 :: c141 :: c142 :: c143 :: c144 :: c145 :: c146 :: c147 :: c148 :: c149 :: c150 :: c151 :: c152 :: c153 :: c154 :: c155 :: c156 :: c157 :: c158 :: c159 :: c160 :: c161 :: c162 :: c163 :: c164 :: c165 :: c166 :: c167 :: c168 :: c169 :: c170 :: c171 :: c172 :: c173 :: c174 :: c175 :: c176 :: c177 :: c178 :: c179 :: c180 :: c181 :: c182 :: c183 :: c184 :: u185 :: u186 :: u187 :: u188 :: u189 :: u190 :: u191 :: u192 :: u193 :: u194 :: u195 :: u196 :: u197 :: u198 :: u199 :: u200 :: u201 :: u202 :: u203 :: u204 :: u205 :: u206 :: u207 :: u208 :: u209 :: u210 :: u211 :: u212 :: u213 :: u214 :: u215 :: u216 :: u217 :: u218 :: u219 :: u220 :: u221 :: u222 :: u223 :: u224 :: u225 :: u226 :: u227 :: u228 :: u229 :: u230 :: u231 :: u232 :: u233 :: u234 :: u235 :: u236 :: u237 :: u238 :: u239 :: u240 :: u241 :: c242 :: c243 :: c244 :: c245 :: c246 :: c247 :: c248 :: c249 :: c250 :: c251 :: c252 :: c253 :: c254 :: c255 :: c256 :: c257 :: c258 :: c259 :: c260 :: c261 :: c262 :: c263 :: c264 :: c265 :: c266 :: c267 :: c268 :: c269 :: []).toArray, []⟩ W')
    : Code.wp Try.prog (Code.loop outs0Body) (outPost 12 Nx Mx) ⟨(c0 :: c1 :: c2 :: c3 :: c4 :: c5 :: (.pointer (some ⟨R, 0, none⟩)) :: c7 :: vq :: (.int .i64 t) :: (.bool false) :: c11 :: c12 :: c13 :: c14 :: c15 :: c16 :: (.pointer (some ⟨bx, 0, none⟩)) :: c18 :: (.int .i64 0) :: c20 :: c21 :: c22 :: c23 :: c24 :: c25 :: c26 :: c27 :: c28 :: c29 :: c30 :: c31 :: c32 :: c33 :: c34 :: c35 :: c36 :: c37 :: c38 :: c39 :: c40 :: c41 :: c42 :: c43 :: c44 :: c45 :: c46 :: c47 :: c48 :: c49 :: c50 :: c51 :: c52 :: c53 :: c54 :: c55 :: c56 :: c57 :: c58 :: c59 :: c60 :: c61 :: c62 :: c63 :: c64 :: c65 :: c66 :: c67 :: c68 :: c69 :: c70 :: c71 :: c72 :: c73 :: c74 :: c75 :: c76 :: c77 :: c78 :: c79 :: c80 :: c81 :: c82 :: c83 :: c84 :: c85 :: c86 :: c87 :: c88 :: c89 :: c90 :: c91 :: c92 :: c93 :: c94 :: c95 :: c96 :: c97 :: c98 :: c99 :: c100 :: c101 :: c102 :: c103 :: c104 :: c105 :: c106 :: c107 :: c108 :: c109 :: c110 :: c111 :: c112 :: c113 :: c114 :: c115 :: c116 :: c117 :: c118 :: c119 :: c120 :: c121 :: c122 :: c123 :: c124 :: c125 :: c126 :: c127 :: c128 :: c129 :: c130 :: c131 :: c132 :: c133 :: c134 :: c135 :: c136 :: c137 :: c138 :: c139 :: c140 :: c141 :: c142 :: c143 :: c144 :: c145 :: c146 :: c147 :: c148 :: c149 :: c150 :: c151 :: c152 :: c153 :: c154 :: c155 :: c156 :: c157 :: c158 :: c159 :: c160 :: c161 :: c162 :: c163 :: c164 :: c165 :: c166 :: c167 :: c168 :: c169 :: c170 :: c171 :: c172 :: c173 :: c174 :: c175 :: c176 :: c177 :: c178 :: c179 :: c180 :: c181 :: c182 :: c183 :: c184 :: c185 :: c186 :: c187 :: c188 :: c189 :: c190 :: c191 :: c192 :: c193 :: c194 :: c195 :: c196 :: c197 :: c198 :: c199 :: c200 :: c201 :: c202 :: c203 :: c204 :: c205 :: c206 :: c207 :: c208 :: c209 :: c210 :: c211 :: c212 :: c213 :: c214 :: c215 :: c216 :: c217 :: c218 :: c219 :: c220 :: c221 :: c222 :: c223 :: c224 :: c225 :: c226 :: c227 :: c228 :: c229 :: c230 :: c231 :: c232 :: c233 :: c234 :: c235 :: c236 :: c237 :: c238 :: c239 :: c240 :: c241 :: c242 :: c243 :: c244 :: c245 :: c246 :: c247 :: c248 :: c249 :: c250 :: c251 :: c252 :: c253 :: c254 :: c255 :: c256 :: c257 :: c258 :: c259 :: c260 :: c261 :: c262 :: c263 :: c264 :: c265 :: c266 :: c267 :: c268 :: c269 :: []).toArray, []⟩ w1 := by
  conv => arg 2; arg 1; whnf
  have Hno := Lib.hid hno
  have HN := Lib.hid hn
  have HI := Lib.hid hI
  have Hx := Lib.hid hx
  have HA := Lib.hid hA
  have HR := Lib.hid hR
  have Hex := Lib.hid hexit
  have hmax : no ≤ 9223372036854775807 := by have := RowAt.max hA; omega
  have Hm := Lib.hid hm
  have Hd := Lib.hid hd
  have Hbx := Lib.hid hbx
  have Hwl := Lib.hid hway
  clear hno hn hI hx hA hR hexit hm hd hbx hway
  go_loopw [8, 10, 19] (fun q o i wr => ∃ k : Nat, k ≤ no ∧ i = .int .i64 k ∧ o = .bool false ∧ q = vq ∧ RefAt w0 wr R t lg (nowTo t x.out (takeL x.inn s.m) k) way more) (fun _ _ i _ => no - (intOf i).toNat)
  case atStart => exact ⟨0, by omega, rfl, rfl, rfl, HR.out⟩
  case round =>
    rename World => v1w
    obtain ⟨k, hk, rfl, rfl, rfl, hr⟩ := hrel
    have b5 : v1w.cell? ⟨bx, 5, none⟩ = some (.slice ao no co) := boxRow.cell (hr.mem (r := boxRow bx 46 [v0, .int .i64 x.delay, v2, v3, v4, .slice ao no co]) (by first | exact Hbx.out | (rw [List.mem_cons]; exact .inr Hbx.out))) rfl
    have b1 : v1w.cell? ⟨bx, 1, none⟩ = some (.int .i64 x.delay) := boxRow.cell (hr.mem (r := boxRow bx 46 [v0, .int .i64 x.delay, v2, v3, v4, .slice ao no co]) (by first | exact Hbx.out | (rw [List.mem_cons]; exact .inr Hbx.out))) rfl
    have bl : bx < v1w.heap.size := (boxRow.lt (hr.mem (r := boxRow bx 46 [v0, .int .i64 x.delay, v2, v3, v4, .slice ao no co]) (by first | exact Hbx.out | (rw [List.mem_cons]; exact .inr Hbx.out)))).2
    have hRl := hr.lt.2
    have hd0 := Hd.out
    rw [hd0] at b1
    by_cases hlt : k < no
    · obtain ⟨⟨xx, y⟩, hxx⟩ := at_lt (l := x.out) (k := k) (by rw [← Hno.out]; exact hlt)
      have hlti : (k : Int) < (no : Int) := by omega
      obtain ⟨ba, off, rfl, hbw1, e0, e1⟩ := ArcsAt.at_ (RowAt.below HA.out hr.low) hxx
      obtain ⟨p, hp0, hp, z, hz, hz0, hy1, hz1, hset⟩ := now_next HN.out HI.out Hx.out Hm.out hxx
      simp only at hp0 hy1 hz1 hset e0 e1
      subst hp0
      have hbox := hr.add ((Below.refl _ _).alloc (Nat.le_refl _) (.cells #[.int .i64 (p : Int), .int .i64 y] 52)) (boxRow.new _ v1w 52 #[.int .i64 (p : Int), .int .i64 y] hr.low.size) (fun k e => by injection e with e; subst e; exact Nat.le_refl _)
      have Hbox := Lib.hid hbox
      obtain ⟨bA, hbA⟩ : ∃ q, q = v1w.heap.size := ⟨_, rfl⟩
      have HbA := Lib.hid hbA
      have Hlm : Hid ((takeL x.inn s.m).length = s.m.length) := Lib.hid (by
        have hs := HI.out.sum
        have htE : 0 ≤ totE s.q := totE_pos _ HI.out.evs
        have hll := HI.out.ll
        exact (take_ok x.inn s.m HI.out.pos (by omega) (fun b hb => by rw [HI.out.len]; exact ⟨(HN.out.inn x Hx.out b hb).1, (HN.out.inn x Hx.out b hb).2.1⟩) (may_in Hm.out) (HN.out.dist x Hx.out)).1)
      have Hgo : Hid (∀ V : World, RefAt w0 V R t lg (nowTo t x.out (takeL x.inn s.m) k) way (more ++ [boxRow bA 52 [.int .i64 (p : Int), .int .i64 y]]) → ∃ bm cm, V.cell? ⟨R, 1, none⟩ = some (.slice (some ⟨bm, 0, none⟩) s.m.length cm) ∧ V.cell? ⟨bm, p, none⟩ = some (.int .i64 z) ∧ V.frozen? ⟨bm, p, none⟩ = false ∧ bm < V.heap.size ∧ R < V.heap.size ∧ R ≠ bm ∧ bx ≠ bm ∧ bA ≠ bm ∧ V.cell? ⟨bA, 0, none⟩ = some (.int .i64 (p : Int)) ∧ V.cell? ⟨bA, 1, none⟩ = some (.int .i64 y) ∧ bA < V.heap.size ∧ V.cell? ⟨bx, 1, none⟩ = some (.int .i64 0) ∧ bx < V.heap.size ∧ RefAt w0 (V.setCell ⟨bm, p, none⟩ (.int .i64 (z + y))) R t lg (nowTo t x.out (takeL x.inn s.m) (k + 1)) way more) := Lib.hid (fun V hV => by
        have hl : (nowTo t x.out (takeL x.inn s.m) k).length = s.m.length := by rw [nowTo_len, Hlm.out]
        obtain ⟨bm, cm, bw, cw, k1, -, hM, -, n1, -, -, tM, -, -, hoff⟩ := hV.both (by rw [hl]; omega) (by have := Hwl.out; omega)
        have hB := hV.mem (r := boxRow bA 52 [.int .i64 (p : Int), .int .i64 y]) (by simp)
        have hT := hV.mem (r := boxRow bx 46 [v0, .int .i64 x.delay, v2, v3, v4, .slice (some ⟨ba, off, none⟩) no co]) (by rw [List.mem_append]; exact .inl Hbx.out)
        have h2 := tM V (Below.refl _ _) p (z + y) (by rw [hl]; exact hp)
        rw [← hset] at h2
        rw [hl] at k1
        have hbx1 := boxRow.cell hT (j := 1) rfl
        rw [Hd.out] at hbx1
        exact ⟨bm, cm, k1, hM.cell hz, hM.froz p, hM.lt.2, hV.lt.2, n1, (hoff (boxRow bx 46 [v0, .int .i64 x.delay, v2, v3, v4, .slice (some ⟨ba, off, none⟩) no co]) (by rw [List.mem_append]; exact .inl Hbx.out) bx rfl).1, (hoff (boxRow bA 52 [.int .i64 (p : Int), .int .i64 y]) (by simp) bA rfl).1, boxRow.cell hB rfl, boxRow.cell hB rfl, (boxRow.lt hB).2, hbx1, (boxRow.lt hT).2, h2.sub (List.sublist_append_left _ _)⟩)
      obtain ⟨P, hP⟩ : ∃ P, P = s.m.length := ⟨_, rfl⟩
      rw [← hP] at Hgo hp
      have hpi : (p : Int) < (P : Int) := by omega
      have hzy : ¬ (1099511627776 : Int) < z + y := by omega
      have hzyb : decide ((1099511627776 : Int) < z + y) = false := decide_eq_false hzy
      have hb1 : -9223372036854775808 ≤ z + y := by omega
      have hb2 : z + y ≤ 9223372036854775807 := by omega
      have hwr : IntKind.i64.wrap (z + y) = z + y := IntWalk.i64_in _ (by omega)
      clear hxx hz hz0 hy1 hz1 hset hr hP Hlm
      clear hd0 hbox
      rw [← HbA.out] at Hbox
      go_upto_region 48 with (fail)
      rw [← HbA.out]
      clear hbA HbA b1 b5 bl hRl e0 e1 hbw1
      revert Hbox
      generalize (v1w.alloc (.cells #[.int .i64 (p : Int), .int .i64 y] 52)) = V
      intro Hbox
      obtain ⟨bm, cm, k1, d0, f0, m0, r0, n1, n2, n3, a0, a1, al, x1, xl, h2⟩ := Hgo.out V Hbox.out
      have H2 := Lib.hid h2
      have n3' : ¬ bm = bA := fun e => n3 e.symm
      have n1' : ¬ bm = R := fun e => n1 e.symm
      clear h2 Hgo Hbox
      go_wp2
      go_region
      go_wp2
      go_roundw
      case rel => exact ⟨k + 1, by omega, by go_num, rfl, rfl, H2.out.go (by first | exact (Below.refl _ _).drew | exact Below.refl _ _ | exact drewNb _ _)⟩
      case measure => simp [intOf]; omega
    · have hge : ¬ (k : Int) < (no : Int) := by omega
      have e : nowTo t x.out (takeL x.inn s.m) k = (outs t 0 x.out).foldl addE (takeL x.inn s.m) := by unfold nowTo; rw [List.take_of_length_le (by rw [← Hno.out]; omega)]
      rw [e] at hr
      have Hr := Lib.hid hr
      clear hr e
      go_wp2
      exact And.intro rfl (Hex.out _ _ _ _ _ _ _ _ _ _ _ _ _ _ _ _ _ _ _ _ _ _ _ _ _ _ _ _ _ _ _ _ _ _ _ _ _ _ _ _ _ _ _ _ _ _ _ _ _ _ _ _ _ _ _ _ _ _ _ _ Hr.out)
end Go.Proofs.Ytpfdmmidomofdaa
