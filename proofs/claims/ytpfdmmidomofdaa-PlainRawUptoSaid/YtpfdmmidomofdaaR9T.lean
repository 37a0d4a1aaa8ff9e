/-
  The document's own run: what a firing takes.
  Conditions: none beyond the theorem's own.
-/
import Derived.Test.YtpfdmmidomofdaaR9A
namespace Go.Proofs.Ytpfdmmidomofdaa
open Go.RowKit
set_option linter.unusedVariables false

noncomputable def takesBody : Code := ((Try.f16.body.map loopsR).getD []).getD 5 .skip

set_option maxRecDepth 1000000 in
set_option maxHeartbeats 8000000 in
theorem takes_loop {w0 w1 : World} {R bx : Nat} {t : Int} {lg : List (Int × Int)} {m way : List Int} {more : List Row} {ai : Option Addr} {ni ci : Nat} {li : List (Int × Int)} {v0 v1 v2 v4 v5 : Value} {c0 c1 c2 c3 c4 c5 c7 c8 c9 c10 c11 c12 c13 c14 c15 c16 c19 c20 c21 c22 c23 c24 c25 c26 c27 c28 c29 c30 c31 c32 c33 c34 c35 c36 c37 c38 c39 c40 c41 c42 c43 c44 c45 c46 c47 c48 c49 c50 c51 c52 c53 c54 c55 c56 c57 c58 c59 c60 c61 c62 c63 c64 c65 c66 c67 c68 c69 c70 c71 c72 c73 c74 c75 c76 c77 c78 c79 c80 c81 c82 c83 c84 c85 c86 c87 c88 c89 c90 c91 c92 c93 c94 c95 c96 c97 c98 c99 c100 c101 c102 c103 c104 c105 c106 c107 c108 c109 c110 c111 c112 c113 c114 c115 c116 c117 c118 c119 c120 c121 c122 c123 c124 c125 c126 c127 c128 c129 c130 c131 c132 c133 c134 c135 c136 c137 c138 c139 c140 c141 c142 c143 c144 c145 c146 c147 c148 c149 c150 c151 c152 c153 c154 c155 c156 c157 c158 c159 c160 c161 c162 c163 c164 c165 c166 c167 c168 c169 c170 c171 c172 c173 c174 c175 c176 c177 c178 c179 c180 c181 c182 c183 c184 c185 c186 c187 c188 c189 c190 c191 c192 c193 c194 c195 c196 c197 c198 c199 c200 c201 c202 c203 c204 c205 c206 c207 c208 c209 c210 c211 c212 c213 c214 c215 c216 c217 c218 c219 c220 c221 c222 c223 c224 c225 c226 c227 c228 c229 c230 c231 c232 c233 c234 c235 c236 c237 c238 c239 c240 c241 c242 c243 c244 c245 c246 c247 c248 c249 c250 c251 c252 c253 c254 c255 c256 c257 c258 c259 c260 c261 c262 c263 c264 c265 c266 c267 c268 c269 : Value} {Nx Mx : Act → World → Prop}
    (hni : ni = li.length) (hA : ArcsAt w0 (.slice ai ni ci) li) (hF : Fits m.length li) (hway : 0 < m.length → 0 < way.length) (hbx : boxRow bx 46 [v0, v1, v2, .slice ai ni ci, v4, v5] ∈ more) (hR : RefAt w0 w1 R t lg m way more)
    (hexit : ∀  (u18 u160 u161 u162 u163 u164 u165 u166 u167 u168 u169 u170 u171 u172 u173 u174 u175 u176 u177 u178 u179 u180 u181 u182 u183 u184 : Value) (W' : World), RefAt w0 W' R t lg (takeL li m) way more → Nx ⟨(c0 :: c1 :: c2 :: c3 :: c4 :: c5 :: (.pointer (some ⟨R, 0, none⟩)) :: c7 :: c8 :: c9 :: c10 :: c11 :: c12 :: c13 :: c14 :: c15 :: c16 :: (.pointer (some ⟨bx, 0, none⟩)) :: u18 :: c19 :: c20 :: c21 :: c22 :: c23 :: c24 :: c25 :: c26 :: c27 :: c28 :: c29 :: c30 :: c31 :: c32 :: c33 :: c34 :: c35 :: c36 :: c37 :: c38 :: c39 :: c40 :: c41 :: c42 :: c43 :: c44 :: c45 :: c46 :: c47 :: c48 :: c49 :: c50 :: c51 :: c52 :: c53 :: c54 :: c55 :: c56 :: c57 :: c58 :: c59 :: c60 :: c61 :: c62 :: c63 :: c64 :: c65 :: c66 :: c67 :: c68 :: c69 :: c70 :: c71 :: c72 :: c73 :: c74 :: c75 :: c76 :: c77 :: c78 :: c79 :: c80 :: c81 :: c82 :: c83 :: c84 :: c85 :: c86 :: c87 :: c88 :: c89 :: c90 :: c91 :: c92 :: c93 :: c94 :: c95 :: c96 :: c97 :: c98 :: c99 :: c100 :: c101 :: c102 :: c103 :: c104 :: c105 :: c106 :: c107 :: c108 :: c109 :: c110 :: c111 :: c112 :: c113 :: c114 :: c115 :: c116 :: c117 :: c118 :: c119 :: c120 :: c121 :: c122 :: c123 :: c124 :: c125 :: c126 :: c127 :: c128 :: c129 :: c130 :: c131 :: c132 :: c133 :: c134 :: c135 :: c136 :: c137 :: c138 :: c139 :: c140 :: c141 :: c142 :: c143 :: c144 :: c145 :: c146 :: c147 :: c148 :: c149 :: c150 :: c151 :: c152 :: c153 :: c154 :: c155 :: c156 :: c157 :: c158 :: c159 :: u160 :: u161 :: u162 :: u163 :: u164 :: u165 :: u166 :: u167 :: u168 :: u169 :: u170 :: u171 :: u172 :: u173 :: u174 :: u175 :: u176 :: u177 :: u178 :: u179 :: u180 :: u181 :: u182 :: u183 :: u184 :: c185 :: c186 :: c187 :: c188 :: c189 :: c190 :: c191 :: c192 :: c193 :: c194 :: c195 :: c196 :: c197 :: c198 :: c199 :: c200 :: c201 :: c202 :: c203 :: c204 :: c205 :: c206 :: c207 :: c208 :: c209 :: c210 :: c211 :: c212 :: c213 :: c214 :: c215 :: c216 :: c217 :: c218 :: c219 :: c220 :: c221 :: c222 :: c223 :: c224 :: c225 :: c226 :: c227 :: c228 :: c229 :: c230 :: c231 :: c232 :: c233 :: c234 :: c235 :: c236 :: c237 :: c238 :: c239 :: c240 :: c241 :: c242 :: c243 :: c244 :: c245 :: c246 :: c247 :: c248 :: c249 :: c250 :: c251 :: c252 :: c253 :: c254 :: c255 :: c256 :: c257 :: c258 :: c259 :: c260 :: c261 :: c262 :: c263 :: c264 :: c265 :: c266 :: c267 :: c268 :: c269 :: []).toArray, []⟩ W')
    : Code.wp Try.prog (Code.loop takesBody) (outPost 10 Nx Mx) ⟨(c0 :: c1 :: c2 :: c3 :: c4 :: c5 :: (.pointer (some ⟨R, 0, none⟩)) :: c7 :: c8 :: c9 :: c10 :: c11 :: c12 :: c13 :: c14 :: c15 :: c16 :: (.pointer (some ⟨bx, 0, none⟩)) :: (.int .i64 0) :: c19 :: c20 :: c21 :: c22 :: c23 :: c24 :: c25 :: c26 :: c27 :: c28 :: c29 :: c30 :: c31 :: c32 :: c33 :: c34 :: c35 :: c36 :: c37 :: c38 :: c39 :: c40 :: c41 :: c42 :: c43 :: c44 :: c45 :: c46 :: c47 :: c48 :: c49 :: c50 :: c51 :: c52 :: c53 :: c54 :: c55 :: c56 :: c57 :: c58 :: c59 :: c60 :: c61 :: c62 :: c63 :: c64 :: c65 :: c66 :: c67 :: c68 :: c69 :: c70 :: c71 :: c72 :: c73 :: c74 :: c75 :: c76 :: c77 :: c78 :: c79 :: c80 :: c81 :: c82 :: c83 :: c84 :: c85 :: c86 :: c87 :: c88 :: c89 :: c90 :: c91 :: c92 :: c93 :: c94 :: c95 :: c96 :: c97 :: c98 :: c99 :: c100 :: c101 :: c102 :: c103 :: c104 :: c105 :: c106 :: c107 :: c108 :: c109 :: c110 :: c111 :: c112 :: c113 :: c114 :: c115 :: c116 :: c117 :: c118 :: c119 :: c120 :: c121 :: c122 :: c123 :: c124 :: c125 :: c126 :: c127 :: c128 :: c129 :: c130 :: c131 :: c132 :: c133 :: c134 :: c135 :: c136 :: c137 :: c138 :: c139 :: c140 :: c141 :: c142 :: c143 :: c144 :: c145 :: c146 :: c147 :: c148 :: c149 :: c150 :: c151 :: c152 :: c153 :: c154 :: c155 :: c156 :: c157 :: c158 :: c159 :: c160 :: c161 :: c162 :: c163 :: c164 :: c165 :: c166 :: c167 :: c168 :: c169 :: c170 :: c171 :: c172 :: c173 :: c174 :: c175 :: c176 :: c177 :: c178 :: c179 :: c180 :: c181 :: c182 :: c183 :: c184 :: c185 :: c186 :: c187 :: c188 :: c189 :: c190 :: c191 :: c192 :: c193 :: c194 :: c195 :: c196 :: c197 :: c198 :: c199 :: c200 :: c201 :: c202 :: c203 :: c204 :: c205 :: c206 :: c207 :: c208 :: c209 :: c210 :: c211 :: c212 :: c213 :: c214 :: c215 :: c216 :: c217 :: c218 :: c219 :: c220 :: c221 :: c222 :: c223 :: c224 :: c225 :: c226 :: c227 :: c228 :: c229 :: c230 :: c231 :: c232 :: c233 :: c234 :: c235 :: c236 :: c237 :: c238 :: c239 :: c240 :: c241 :: c242 :: c243 :: c244 :: c245 :: c246 :: c247 :: c248 :: c249 :: c250 :: c251 :: c252 :: c253 :: c254 :: c255 :: c256 :: c257 :: c258 :: c259 :: c260 :: c261 :: c262 :: c263 :: c264 :: c265 :: c266 :: c267 :: c268 :: c269 :: []).toArray, []⟩ w1 := by
  conv => arg 2; arg 1; whnf
  have Hni := Lib.hid hni
  have HA := Lib.hid hA
  have HF := Lib.hid hF
  have Hbx := Lib.hid hbx
  have HR := Lib.hid hR
  have Hex := Lib.hid hexit
  have hmax : ni ≤ 9223372036854775807 := by have := RowAt.max hA; omega
  have hwl := Lib.hid hway
  clear hni hA hF hbx hR hexit hway
  go_loopw [18] (fun i wr => ∃ k : Nat, k ≤ ni ∧ i = .int .i64 k ∧ RefAt w0 wr R t lg (takeTo li m k) way more) (fun i _ => ni - (intOf i).toNat)
  case atStart => exact ⟨0, by omega, rfl, HR.out⟩
  case round =>
    rename World => v1
    obtain ⟨k, hk, rfl, hr⟩ := hrel
    have b3 : v1.cell? ⟨bx, 3, none⟩ = some (.slice ai ni ci) := boxRow.cell (hr.mem Hbx.out) rfl
    have bl : bx < v1.heap.size := (boxRow.lt (hr.mem Hbx.out)).2
    have hRl := hr.lt.2
    by_cases hlt : k < ni
    · obtain ⟨⟨x, y⟩, hx⟩ := at_lt (l := li) (k := k) (by rw [← Hni.out]; exact hlt)
      have hlti : (k : Int) < (ni : Int) := by omega
      obtain ⟨b1, off, rfl, hbw1, e0, e1⟩ := ArcsAt.at_ (RowAt.below HA.out hr.low) hx
      obtain ⟨p, rfl, hp, z, hz, hg⟩ := HF.out.at_ hx
      have hlm : (takeTo li m k).length = m.length := takeTo_len _ _ _
      obtain ⟨z, hz'⟩ := at_lt (l := takeTo li m k) (k := p) (by rw [hlm]; exact hp)
      obtain ⟨bm, cm, bw, cw, k1, -, hM, -, n1, -, -, tM, -, -, -⟩ := hr.both (by rw [hlm]; omega) (by have := hwl.out; omega)
      rw [hlm] at k1
      have d0 := hM.cell hz'
      have g0 := hM.froz p
      have m0 := hM.lt.2
      have hnext : takeTo li m (k + 1) = (takeTo li m k).set p (wrap64 (z - y)) := by
        rw [takeTo_succ hx]; unfold stepT getI
        simp [List.getD, hz']
      have h2 := tM v1 (Below.refl _ _) p (wrap64 (z - y)) (by rw [hlm]; exact hp)
      rw [← hnext] at h2
      have H2 := Lib.hid h2
      obtain ⟨P, hP⟩ : ∃ P, P = m.length := ⟨_, rfl⟩
      rw [← hP] at k1 hp
      have hpi : (p : Int) < (P : Int) := by omega
      clear hx hz hg hlm hz' hM tM hnext h2 hr hP
      go_wp2
      go_region
      go_wp2
      go_roundw
      case rel => exact ⟨k + 1, by omega, by go_num, H2.out.go (by first | exact (Below.refl _ _).drew | exact Below.refl _ _)⟩
      case measure => simp [intOf]; omega
    · have hge : ¬ (k : Int) < (ni : Int) := by omega
      rw [takeTo_all (by rw [← Hni.out]; omega)] at hr
      have Hr := Lib.hid hr
      clear hr
      go_wp2
      exact And.intro rfl (Hex.out _ _ _ _ _ _ _ _ _ _ _ _ _ _ _ _ _ _ _ _ _ _ _ _ _ _ _ Hr.out)
end Go.Proofs.Ytpfdmmidomofdaa
