/-
  The document's own run: the next time.
  Conditions: none beyond the theorem's own.
-/
import Derived.Test.YtpfdmmidomofdaaR9A
namespace Go.Proofs.Ytpfdmmidomofdaa
open Go.RowKit
set_option linter.unusedVariables false

noncomputable def nextBody : Code := ((Try.f16.body.map loopsR).getD []).getD 7 .skip

set_option maxRecDepth 1000000 in
set_option maxHeartbeats 8000000 in
theorem next_loop {w1 : World} {aq : Option Addr} {nq cq : Nat} {q : List Ev} {c0 c1 c2 c3 c4 c5 c6 c7 c9 c10 c11 c12 c13 c14 c15 c16 c17 c18 c19 c20 c23 c24 c25 c26 c27 c28 c29 c30 c31 c32 c33 c34 c35 c36 c37 c38 c39 c40 c41 c42 c43 c44 c45 c46 c47 c48 c49 c50 c51 c52 c53 c54 c55 c56 c57 c58 c59 c60 c61 c62 c63 c64 c65 c66 c67 c68 c69 c70 c71 c72 c73 c74 c75 c76 c77 c78 c79 c80 c81 c82 c83 c84 c85 c86 c87 c88 c89 c90 c91 c92 c93 c94 c95 c96 c97 c98 c99 c100 c101 c102 c103 c104 c105 c106 c107 c108 c109 c110 c111 c112 c113 c114 c115 c116 c117 c118 c119 c120 c121 c122 c123 c124 c125 c126 c127 c128 c129 c130 c131 c132 c133 c134 c135 c136 c137 c138 c139 c140 c141 c142 c143 c144 c145 c146 c147 c148 c149 c150 c151 c152 c153 c154 c155 c156 c157 c158 c159 c160 c161 c162 c163 c164 c165 c166 c167 c168 c169 c170 c171 c172 c173 c174 c175 c176 c177 c178 c179 c180 c181 c182 c183 c184 c185 c186 c187 c188 c189 c190 c191 c192 c193 c194 c195 c196 c197 c198 c199 c200 c201 c202 c203 c204 c205 c206 c207 c208 c209 c210 c211 c212 c213 c214 c215 c216 c217 c218 c219 c220 c221 c222 c223 c224 c225 c226 c227 c228 c229 c230 c231 c232 c233 c234 c235 c236 c237 c238 c239 c240 c241 c242 c243 c244 c245 c246 c247 c248 c249 c250 c251 c252 c253 c254 c255 c256 c257 c258 c259 c260 c261 c262 c263 c264 c265 c266 c267 c268 c269 : Value} {Nx Mx : Act → World → Prop}
    (hnq : nq = q.length) (hE : EvsAt w1 (.slice aq nq cq) q)
    (hexit : ∀  (u22 u244 u245 u246 u247 u248 u249 u250 u251 u252 u253 u254 u255 u256 u257 u258 u259 u260 u261 u262 u263 u264 u265 : Value) (W' : World), Below w1.heap.size w1 W' → Nx ⟨(c0 :: c1 :: c2 :: c3 :: c4 :: c5 :: c6 :: c7 :: (.slice aq nq cq) :: c9 :: c10 :: c11 :: c12 :: c13 :: c14 :: c15 :: c16 :: c17 :: c18 :: c19 :: c20 :: (.int .i64 (nextT q)) :: u22 :: c23 :: c24 :: c25 :: c26 :: c27 :: c28 :: c29 :: c30 :: c31 :: c32 :: c33 :: c34 :: c35 :: c36 :: c37 :: c38 :: c39 :: c40 :: c41 :: c42 :: c43 :: c44 :: c45 :: c46 :: c47 :: c48 :: c49 :: c50 :: c51 :: c52 :: c53 :: c54 :: c55 :: c56 :: c57 :: c58 :: c59 :: c60 :: c61 :: c62 :: c63 :: c64 :: c65 :: c66 :: c67 :: c68 :: c69 :: c70 :: c71 :: c72 :: c73 :: c74 :: c75 :: c76 :: c77 :: c78 :: c79 :: c80 :: c81 :: c82 :: c83 :: c84 :: c85 :: c86 :: c87 :: c88 :: c89 :: c90 :: c91 :: c92 :: c93 :: c94 :: c95 :: c96 :: c97 :: c98 :: c99 :: c100 :: c101 :: c102 :: c103 :: c104 :: c105 :: c106 :: c107 :: c108 :: c109 :: c110 :: c111 :: c112 :: c113 :: c114 :: c115 :: c116 :: c117 :: c118 :: c119 :: c120 :: c121 :: c122 :: c123 :: c124 :: c125 :: c126 :: c127 :: c128 :: c129 :: c130 :: c131 :: c132 :: c133 :: c134 :: c135 :: c136 :: c137 :: c138 :: c139 :: c140 :: c141 :: c142 :: c143 :: c144 :: c145 :: c146 :: c147 :: c148 :: c149 :: c150 :: c151 :: c152 :: c153 :: c154 :: c155 :: c156 :: c157 :: c158 :: c159 :: c160 :: c161 :: c162 :: c163 :: c164 :: c165 :: c166 :: c167 :: c168 :: c169 :: c170 :: c171 :: c172 :: c173 :: c174 :: c175 :: c176 :: c177 :: c178 :: c179 :: c180 :: c181 :: c182 :: c183 :: c184 :: c185 :: c186 :: c187 :: c188 :: c189 :: c190 :: c191 :: c192 :: c193 :: c194 :: c195 :: c196 :: c197 :: c198 :: c199 :: c200 :: c201 :: c202 :: c203 :: c204 :: c205 :: c206 :: c207 :: c208 :: c209 :: c210 :: c211 :: c212 :: c213 :: c214 :: c215 :: c216 :: c217 :: c218 :: c219 :: c220 :: c221 :: c222 :: c223 :: c224 :: c225 :: c226 :: c227 :: c228 :: c229 :: c230 :: c231 :: c232 :: c233 :: c234 :: c235 :: c236 :: c237 :: c238 :: c239 :: c240 :: c241 :: c242 :: c243 :: u244 :: u245 :: u246 :: u247 :: u248 :: u249 :: u250 :: u251 :: u252 :: u253 :: u254 :: u255 :: u256 :: u257 :: u258 :: u259 :: u260 :: u261 :: u262 :: u263 :: u264 :: u265 :: c266 :: c267 :: c268 :: c269 :: []).toArray, []⟩ W')
    : Code.wp Try.prog (Code.loop nextBody) (outPost 14 Nx Mx) ⟨(c0 :: c1 :: c2 :: c3 :: c4 :: c5 :: c6 :: c7 :: (.slice aq nq cq) :: c9 :: c10 :: c11 :: c12 :: c13 :: c14 :: c15 :: c16 :: c17 :: c18 :: c19 :: c20 :: (.int .i64 (-1)) :: (.int .i64 0) :: c23 :: c24 :: c25 :: c26 :: c27 :: c28 :: c29 :: c30 :: c31 :: c32 :: c33 :: c34 :: c35 :: c36 :: c37 :: c38 :: c39 :: c40 :: c41 :: c42 :: c43 :: c44 :: c45 :: c46 :: c47 :: c48 :: c49 :: c50 :: c51 :: c52 :: c53 :: c54 :: c55 :: c56 :: c57 :: c58 :: c59 :: c60 :: c61 :: c62 :: c63 :: c64 :: c65 :: c66 :: c67 :: c68 :: c69 :: c70 :: c71 :: c72 :: c73 :: c74 :: c75 :: c76 :: c77 :: c78 :: c79 :: c80 :: c81 :: c82 :: c83 :: c84 :: c85 :: c86 :: c87 :: c88 :: c89 :: c90 :: c91 :: c92 :: c93 :: c94 :: c95 :: c96 :: c97 :: c98 :: c99 :: c100 :: c101 :: c102 :: c103 :: c104 :: c105 :: c106 :: c107 :: c108 :: c109 :: c110 :: c111 :: c112 :: c113 :: c114 :: c115 :: c116 :: c117 :: c118 :: c119 :: c120 :: c121 :: c122 :: c123 :: c124 :: c125 :: c126 :: c127 :: c128 :: c129 :: c130 :: c131 :: c132 :: c133 :: c134 :: c135 :: c136 :: c137 :: c138 :: c139 :: c140 :: c141 :: c142 :: c143 :: c144 :: c145 :: c146 :: c147 :: c148 :: c149 :: c150 :: c151 :: c152 :: c153 :: c154 :: c155 :: c156 :: c157 :: c158 :: c159 :: c160 :: c161 :: c162 :: c163 :: c164 :: c165 :: c166 :: c167 :: c168 :: c169 :: c170 :: c171 :: c172 :: c173 :: c174 :: c175 :: c176 :: c177 :: c178 :: c179 :: c180 :: c181 :: c182 :: c183 :: c184 :: c185 :: c186 :: c187 :: c188 :: c189 :: c190 :: c191 :: c192 :: c193 :: c194 :: c195 :: c196 :: c197 :: c198 :: c199 :: c200 :: c201 :: c202 :: c203 :: c204 :: c205 :: c206 :: c207 :: c208 :: c209 :: c210 :: c211 :: c212 :: c213 :: c214 :: c215 :: c216 :: c217 :: c218 :: c219 :: c220 :: c221 :: c222 :: c223 :: c224 :: c225 :: c226 :: c227 :: c228 :: c229 :: c230 :: c231 :: c232 :: c233 :: c234 :: c235 :: c236 :: c237 :: c238 :: c239 :: c240 :: c241 :: c242 :: c243 :: c244 :: c245 :: c246 :: c247 :: c248 :: c249 :: c250 :: c251 :: c252 :: c253 :: c254 :: c255 :: c256 :: c257 :: c258 :: c259 :: c260 :: c261 :: c262 :: c263 :: c264 :: c265 :: c266 :: c267 :: c268 :: c269 :: []).toArray, []⟩ w1 := by
  conv => arg 2; arg 1; whnf
  have Hnq := Lib.hid hnq
  have HE := Lib.hid hE
  have Hex := Lib.hid hexit
  have hmax : nq ≤ 9223372036854775807 := by have := RowAt.max hE; omega
  clear hnq hE hexit
  go_loopw [21, 22] (fun z i wr => ∃ (k : Nat) (y : Int), k ≤ nq ∧ i = .int .i64 k ∧ z = .int .i64 y ∧ Below w1.heap.size w1 wr ∧ Hid (y = nextT (q.take k))) (fun _ i _ => nq - (intOf i).toNat)
  case atStart => exact ⟨0, -1, by omega, rfl, rfl, Below.refl _ _, Lib.hid rfl⟩
  case round =>
    rename World => v1
    obtain ⟨k, y, hk, rfl, rfl, hbl, Hy⟩ := hrel
    by_cases hlt : k < nq
    · obtain ⟨x, hx⟩ := at_lt (l := q) (k := k) (by rw [← Hnq.out]; exact hlt)
      have hlti : (k : Int) < (nq : Int) := by omega
      obtain ⟨g, off, rfl, hgw, e0, e1, e2⟩ := (HE.out.below hbl).at_ hx
      have hn := nextT_take hx
      rw [← Hy.out] at hn
      have Hn := Lib.hid hn
      obtain ⟨xt, xp, xn⟩ := x
      have Hb := Lib.hid hbl
      clear hn hx hbl e1 e2
      simp only at e0 Hn
      by_cases g1 : y < 0
      · have Hr : Hid (xt = nextT (q.take (k + 1))) := Lib.hid (by rw [Hn.out, if_pos (.inl g1)])
        go_wp2
        go_roundw
        case rel => exact ⟨k + 1, xt, by omega, by go_num, rfl, Hb.out, Hr⟩
        case measure => simp [intOf]; omega
      · have g1b : decide (y < 0) = false := decide_eq_false g1
        by_cases g2 : xt < y
        · have Hr : Hid (xt = nextT (q.take (k + 1))) := Lib.hid (by rw [Hn.out, if_pos (.inr g2)])
          go_wp2
          go_roundw
          case rel => exact ⟨k + 1, xt, by omega, by go_num, rfl, Hb.out, Hr⟩
          case measure => simp [intOf]; omega
        · have g2b : decide (xt < y) = false := decide_eq_false g2
          have Hr : Hid (y = nextT (q.take (k + 1))) := Lib.hid (by rw [Hn.out, if_neg (by omega)])
          go_wp2
          go_roundw
          case rel => exact ⟨k + 1, y, by omega, by go_num, rfl, Hb.out, Hr⟩
          case measure => simp [intOf]; omega
    · have hge : ¬ (k : Int) < (nq : Int) := by omega
      obtain rfl : y = nextT q := by rw [Hy.out, List.take_of_length_le (by rw [← Hnq.out]; omega)]
      have Hb := Lib.hid hbl
      clear hbl
      go_wp2
      exact And.intro rfl (Hex.out _ _ _ _ _ _ _ _ _ _ _ _ _ _ _ _ _ _ _ _ _ _ _ _ Hb.out)
end Go.Proofs.Ytpfdmmidomofdaa
