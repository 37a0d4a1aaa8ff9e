/-
  The document's own run: the next time. The document's own run: no place has too many. The document's own run: what a firing gives at once. The document's own run: what a firing gives, under way. The document's own run: what a firing takes. The document's own run: what comes at one time.
  Conditions: none beyond each theorem's own.
-/
import Derived.Test.YtpbbdnicafifpaaR9A
import Derived.BigRegion
/-! ## R9N -/
namespace Go.Proofs.Ytpbbdnicafifpaa
open Go.RowKit
set_option linter.unusedVariables false

noncomputable def nextBody : Code := ((Try.f26.body.map loopsR).getD []).getD 7 .skip

set_option maxRecDepth 1000000 in
set_option maxHeartbeats 8000000 in
theorem next_loop {w1 : World} {aq : Option Addr} {nq cq : Nat} {q : List Ev} {c0 c1 c2 c3 c4 c5 c6 c7 c9 c10 c11 c12 c13 c14 c15 c16 c17 c18 c19 c20 c23 c24 c25 c26 c27 c28 c29 c30 c31 c32 c33 c34 c35 c36 c37 c38 c39 c40 c41 c42 c43 c44 c45 c46 c47 c48 c49 c50 c51 c52 c53 c54 c55 c56 c57 c58 c59 c60 c61 c62 c63 c64 c65 c66 c67 c68 c69 c70 c71 c72 c73 c74 c75 c76 c77 c78 c79 c80 c81 c82 c83 c84 c85 c86 c87 c88 c89 c90 c91 c92 c93 c94 c95 c96 c97 c98 c99 c100 c101 c102 c103 c104 c105 c106 c107 c108 c109 c110 c111 c112 c113 c114 c115 c116 c117 c118 c119 c120 c121 c122 c123 c124 c125 c126 c127 c128 c129 c130 c131 c132 c133 c134 c135 c136 c137 c138 c139 c140 c141 c142 c143 c144 c145 c146 c147 c148 c149 c150 c151 c152 c153 c154 c155 c156 c157 c158 c159 c160 c161 c162 c163 c164 c165 c166 c167 c168 c169 c170 c171 c172 c173 c174 c175 c176 c177 c178 c179 c180 c181 c182 c183 c184 c185 c186 c187 c188 c189 c190 c191 c192 c193 c194 c195 c196 c197 c198 c199 c200 c201 c202 c203 c204 c205 c206 c207 c208 c209 c210 c211 c212 c213 c214 c215 c216 c217 c218 c219 c220 c221 c222 c223 c224 c225 c226 c227 c228 c229 c230 c231 c232 c233 c234 c235 c236 c237 c238 c239 c240 c241 c242 c243 c244 c245 c246 c247 c248 c249 c250 c251 c252 c253 c254 c255 c256 c257 c258 c259 c260 c261 c262 c263 c264 c265 c266 c267 c268 c269 : Value} {Nx Mx : Act → World → Prop}
    (hnq : nq = q.length) (hE : EvsAt w1 (.slice aq nq cq) q)
    (hexit : ∀  (u22 u244 u245 u246 u247 u248 u249 u250 u251 u252 u253 u254 u255 u256 u257 u258 u259 u260 u261 u262 u263 u264 u265 : Value) (W' : World), Below w1.heap.size w1 W' → Nx ⟨(c0 :: c1 :: c2 :: c3 :: c4 :: c5 :: c6 :: c7 :: (.slice aq nq cq) :: c9 :: c10 :: c11 :: c12 :: c13 :: c14 :: c15 :: c16 :: c17 :: c18 :: c19 :: c20 :: (.int .i64 (nextT q)) :: u22 :: c23 :: c24 :: c25 :: c26 :: c27 :: c28 :: c29 :: c30 :: c31 :: c32 :: c33 :: c34 :: c35 :: c36 :: c37 :: c38 :: c39 :: c40 :: c41 :: c42 :: c43 :: c44 :: c45 :: c46 :: c47 :: c48 :: c49 :: c50 :: c51 :: c52 :: c53 :: c54 :: c55 :: c56 :: c57 :: c58 :: c59 :: c60 :: c61 :: c62 :: c63 :: c64 :: c65 :: c66 :: c67 :: c68 :: c69 :: c70 :: c71 :: c72 :: c73 :: c74 :: c75 :: c76 :: c77 :: c78 :: c79 :: c80 :: c81 :: c82 :: c83 :: c84 :: c85 :: c86 :: c87 :: c88 :: c89 :: c90 :: c91 :: c92 :: c93 :: c94 :: c95 :: c96 :: c97 :: c98 :: c99 :: c100 :: c101 :: c102 :: c103 :: c104 :: c105 :: c106 :: c107 :: c108 :: c109 :: c110 :: c111 :: c112 :: c113 :: c114 :: c115 :: c116 :: c117 :: c118 :: c119 :: c120 :: c121 :: c122 :: c123 :: c124 :: c125 :: c126 :: c127 :: c128 :: c129 :: c130 :: c131 :: c132 :: c133 :: c134 :: c135 :: c136 :: c137 :: c138 :: c139 :: c140 :: c141 :: c142 :: c143 :: c144 :: c145 :: c146 :: c147 :: c148 :: c149 :: c150 :: c151 :: c152 :: c153 :: c154 :: c155 :: c156 :: c157 :: c158 :: c159 :: c160 :: c161 :: c162 :: c163 :: c164 :: c165 :: c166 :: c167 :: c168 :: c169 :: c170 :: c171 :: c172 :: c173 :: c174 :: c175 :: c176 :: c177 :: c178 :: c179 :: c180 :: c181 :: c182 :: c183 :: c184 :: c185 :: c186 :: c187 :: c188 :: c189 :: c190 :: c191 :: c192 :: c193 :: c194 :: c195 :: c196 :: c197 :: c198 :: c199 :: c200 :: c201 :: c202 :: c203 :: c204 :: c205 :: c206 :: c207 :: c208 :: c209 :: c210 :: c211 :: c212 :: c213 :: c214 :: c215 :: c216 :: c217 :: c218 :: c219 :: c220 :: c221 :: c222 :: c223 :: c224 :: c225 :: c226 :: c227 :: c228 :: c229 :: c230 :: c231 :: c232 :: c233 :: c234 :: c235 :: c236 :: c237 :: c238 :: c239 :: c240 :: c241 :: c242 :: c243 :: u244 :: u245 :: u246 :: u247 :: u248 :: u249 :: u250 :: u251 :: u252 :: u253 :: u254 :: u255 :: u256 :: u257 :: u258 :: u259 :: u260 :: u261 :: u262 :: u263 :: u264 :: u265 :: c266 :: c267 :: c268 :: c269 :: []).toArray, []⟩ W')
    : Code.wp Try.prog (Code.loop nextBody) (outPost 14 Nx Mx) ⟨(c0 :: c1 :: c2 :: c3 :: c4 :: c5 :: c6 :: c7 :: (.slice aq nq cq) :: c9 :: c10 :: c11 :: c12 :: c13 :: c14 :: c15 :: c16 :: c17 :: c18 :: c19 :: c20 :: (.int .i64 (-1)) :: (.int .i64 0) :: c23 :: c24 :: c25 :: c26 :: c27 :: c28 :: c29 :: c30 :: c31 :: c32 :: c33 :: c34 :: c35 :: c36 :: c37 :: c38 :: c39 :: c40 :: c41 :: c42 :: c43 :: c44 :: c45 :: c46 :: c47 :: c48 :: c49 :: c50 :: c51 :: c52 :: c53 :: c54 :: c55 :: c56 :: c57 :: c58 :: c59 :: c60 :: c61 :: c62 :: c63 :: c64 :: c65 :: c66 :: c67 :: c68 :: c69 :: c70 :: c71 :: c72 :: c73 :: c74 :: c75 :: c76 :: c77 :: c78 :: c79 :: c80 :: c81 :: c82 :: c83 :: c84 :: c85 :: c86 :: c87 :: c88 :: c89 :: c90 :: c91 :: c92 :: c93 :: c94 :: c95 :: c96 :: c97 :: c98 :: c99 :: c100 :: c101 :: c102 :: c103 :: c104 :: c105 :: c106 :: c107 :: c108 :: c109 :: c110 :: c111 :: c112 :: c113 :: c114 :: c115 :: c116 :: c117 :: c118 :: c119 :: c120 :: c121 :: c122 :: c123 :: c124 :: c125 :: c126 :: c127 :: c128 :: c129 :: c130 :: c131 :: c132 :: c133 :: c134 :: c135 :: c136 :: c137 :: c138 :: c139 :: c140 :: c141 :: c142 :: c143 :: c144 :: c145 :: c146 :: c147 :: c148 :: c149 :: c150 :: c151 :: c152 :: c153 :: c154 :: c155 :: c156 :: c157 :: c158 :: c159 :: c160 :: c161 :: c162 :: c163 :: c164 :: c165 :: c166 :: c167 :: c168 :: c169 :: c170 :: c171 :: c172 :: c173 :: c174 :: c175 :: c176 :: c177 :: c178 :: c179 :: c180 :: c181 :: c182 :: c183 :: c184 :: c185 :: c186 :: c187 :: c188 :: c189 :: c190 :: c191 :: c192 :: c193 :: c194 :: c195 :: c196 :: c197 :: c198 :: c199 :: c200 :: c201 :: c202 :: c203 :: c204 :: c205 :: c206 :: c207 :: c208 :: c209 :: c210 :: c211 :: c212 :: c213 :: c214 :: c215 :: c216 :: c217 :: c218 :: c219 :: c220 :: c221 :: c222 :: c223 :: c224 :: c225 :: c226 :: c227 :: c228 :: c229 :: c230 :: c231 :: c232 :: c233 :: c234 :: c235 :: c236 :: c237 :: c238 :: c239 :: c240 :: c241 :: c242 :: c243 :: c244 :: c245 :: c246 :: c247 :: c248 :: c249 :: c250 :: c251 :: c252 :: c253 :: c254 :: c255 :: c256 :: c257 :: c258 :: c259 :: c260 :: c261 :: c262 :: c263 :: c264 :: c265 :: c266 :: c267 :: c268 :: c269 :: []).toArray, []⟩ w1 := by
  conv => arg 2; arg 1; whnf
  have Hnq := Lib.hid hnq
  have HE := Lib.hid hE
  have Hex := Lib.hid hexit
  have hmax : nq ≤ 9223372036854775807 := by have := RowAt.max hE; omega
  clear hnq hE hexit
  go_loopw [21, 22] (fun z i wr => ∃ (k : Nat) (y : Int), k ≤ nq ∧ i = .int .i64 k ∧ z = .int .i64 y ∧ Below w1.heap.size w1 wr ∧ Hid (y = nextT (q.take k))) (fun _ i _ => nq - (intOf i).toNat)
  case atStart => exact ⟨0, -1, by omega, rfl, rfl, Below.refl _ _, Lib.hid rfl⟩
  case round =>
    rename World => v1
    obtain ⟨k, y, hk, rfl, rfl, hbl, Hy⟩ := hrel
    by_cases hlt : k < nq
    · obtain ⟨x, hx⟩ := at_lt (l := q) (k := k) (by rw [← Hnq.out]; exact hlt)
      have hlti : (k : Int) < (nq : Int) := by omega
      obtain ⟨g, off, rfl, hgw, e0, e1, e2⟩ := (HE.out.below hbl).at_ hx
      have hn := nextT_take hx
      rw [← Hy.out] at hn
      have Hn := Lib.hid hn
      obtain ⟨xt, xp, xn⟩ := x
      have Hb := Lib.hid hbl
      clear hn hx hbl e1 e2
      simp only at e0 Hn
      by_cases g1 : y < 0
      · have Hr : Hid (xt = nextT (q.take (k + 1))) := Lib.hid (by rw [Hn.out, if_pos (.inl g1)])
        go_wp2
        go_roundw
        case rel => exact ⟨k + 1, xt, by omega, by go_num, rfl, Hb.out, Hr⟩
        case measure => simp [intOf]; omega
      · have g1b : decide (y < 0) = false := decide_eq_false g1
        by_cases g2 : xt < y
        · have Hr : Hid (xt = nextT (q.take (k + 1))) := Lib.hid (by rw [Hn.out, if_pos (.inr g2)])
          go_wp2
          go_roundw
          case rel => exact ⟨k + 1, xt, by omega, by go_num, rfl, Hb.out, Hr⟩
          case measure => simp [intOf]; omega
        · have g2b : decide (xt < y) = false := decide_eq_false g2
          have Hr : Hid (y = nextT (q.take (k + 1))) := Lib.hid (by rw [Hn.out, if_neg (by omega)])
          go_wp2
          go_roundw
          case rel => exact ⟨k + 1, y, by omega, by go_num, rfl, Hb.out, Hr⟩
          case measure => simp [intOf]; omega
    · have hge : ¬ (k : Int) < (nq : Int) := by omega
      obtain rfl : y = nextT q := by rw [Hy.out, List.take_of_length_le (by rw [← Hnq.out]; omega)]
      have Hb := Lib.hid hbl
      clear hbl
      go_wp2
      exact And.intro rfl (Hex.out _ _ _ _ _ _ _ _ _ _ _ _ _ _ _ _ _ _ _ _ _ _ _ _ Hb.out)
end Go.Proofs.Ytpbbdnicafifpaa

/-! ## R9O -/
namespace Go.Proofs.Ytpbbdnicafifpaa
open Go.RowKit
set_option linter.unusedVariables false

noncomputable def overBody : Code := ((Try.f26.body.map loopsR).getD []).getD 3 .skip

set_option maxRecDepth 1000000 in
set_option maxHeartbeats 8000000 in
theorem over_loop {w1 : World} {R : Nat} {m : List Int} {am : Option Addr} {nm cm : Nat} {c0 c1 c2 c3 c4 c5 c7 c8 c9 c11 c12 c13 c15 c16 c17 c18 c19 c20 c21 c22 c23 c24 c25 c26 c27 c28 c29 c30 c31 c32 c33 c34 c35 c36 c37 c38 c39 c40 c41 c42 c43 c44 c45 c46 c47 c48 c49 c50 c51 c52 c53 c54 c55 c56 c57 c58 c59 c60 c61 c62 c63 c64 c65 c66 c67 c68 c69 c70 c71 c72 c73 c74 c75 c76 c77 c78 c79 c80 c81 c82 c83 c84 c85 c86 c87 c88 c89 c90 c91 c92 c93 c94 c95 c96 c97 c98 c99 c100 c101 c102 c103 c104 c105 c106 c107 c108 c109 c110 c111 c112 c113 c114 c115 c116 c117 c118 c119 c120 c121 c122 c123 c124 c125 c126 c127 c128 c129 c130 c131 c132 c133 c134 c135 c136 c137 c138 c139 c140 c141 c142 c143 c144 c145 c146 c147 c148 c149 c150 c151 c152 c153 c154 c155 c156 c157 c158 c159 c160 c161 c162 c163 c164 c165 c166 c167 c168 c169 c170 c171 c172 c173 c174 c175 c176 c177 c178 c179 c180 c181 c182 c183 c184 c185 c186 c187 c188 c189 c190 c191 c192 c193 c194 c195 c196 c197 c198 c199 c200 c201 c202 c203 c204 c205 c206 c207 c208 c209 c210 c211 c212 c213 c214 c215 c216 c217 c218 c219 c220 c221 c222 c223 c224 c225 c226 c227 c228 c229 c230 c231 c232 c233 c234 c235 c236 c237 c238 c239 c240 c241 c242 c243 c244 c245 c246 c247 c248 c249 c250 c251 c252 c253 c254 c255 c256 c257 c258 c259 c260 c261 c262 c263 c264 c265 c266 c267 c268 c269 : Value} {Nx Mx : Act → World → Prop}
    (hm : nm = m.length) (hR : R < w1.heap.size) (hc : w1.cell? ⟨R, 1, none⟩ = some (.slice am nm cm)) (hI : IntsAt w1 (.slice am nm cm) m) (hle : ∀ z ∈ m, z ≤ 1099511627776)
    (hexit : ∀  (u14 u90 u91 u92 u93 u94 u95 u96 u97 u98 u99 u100 u101 u102 u103 u104 u105 : Value) (W' : World), Below w1.heap.size w1 W' → Nx ⟨(c0 :: c1 :: c2 :: c3 :: c4 :: c5 :: (.pointer (some ⟨R, 0, none⟩)) :: c7 :: c8 :: c9 :: (.bool false) :: c11 :: c12 :: c13 :: u14 :: c15 :: c16 :: c17 :: c18 :: c19 :: c20 :: c21 :: c22 :: c23 :: c24 :: c25 :: c26 :: c27 :: c28 :: c29 :: c30 :: c31 :: c32 :: c33 :: c34 :: c35 :: c36 :: c37 :: c38 :: c39 :: c40 :: c41 :: c42 :: c43 :: c44 :: c45 :: c46 :: c47 :: c48 :: c49 :: c50 :: c51 :: c52 :: c53 :: c54 :: c55 :: c56 :: c57 :: c58 :: c59 :: c60 :: c61 :: c62 :: c63 :: c64 :: c65 :: c66 :: c67 :: c68 :: c69 :: c70 :: c71 :: c72 :: c73 :: c74 :: c75 :: c76 :: c77 :: c78 :: c79 :: c80 :: c81 :: c82 :: c83 :: c84 :: c85 :: c86 :: c87 :: c88 :: c89 :: u90 :: u91 :: u92 :: u93 :: u94 :: u95 :: u96 :: u97 :: u98 :: u99 :: u100 :: u101 :: u102 :: u103 :: u104 :: u105 :: c106 :: c107 :: c108 :: c109 :: c110 :: c111 :: c112 :: c113 :: c114 :: c115 :: c116 :: c117 :: c118 :: c119 :: c120 :: c121 :: c122 :: c123 :: c124 :: c125 :: c126 :: c127 :: c128 :: c129 :: c130 :: c131 :: c132 :: c133 :: c134 :: c135 :: c136 :: c137 :: c138 :: c139 :: c140 :: c141 :: c142 :: c143 :: c144 :: c145 :: c146 :: c147 :: c148 :: c149 :: c150 :: c151 :: c152 :: c153 :: c154 :: c155 :: c156 :: c157 :: c158 :: c159 :: c160 :: c161 :: c162 :: c163 :: c164 :: c165 :: c166 :: c167 :: c168 :: c169 :: c170 :: c171 :: c172 :: c173 :: c174 :: c175 :: c176 :: c177 :: c178 :: c179 :: c180 :: c181 :: c182 :: c183 :: c184 :: c185 :: c186 :: c187 :: c188 :: c189 :: c190 :: c191 :: c192 :: c193 :: c194 :: c195 :: c196 :: c197 :: c198 :: c199 :: c200 :: c201 :: c202 :: c203 :: c204 :: c205 :: c206 :: c207 :: c208 :: c209 :: c210 :: c211 :: c212 :: c213 :: c214 :: c215 :: c216 :: c217 :: c218 :: c219 :: c220 :: c221 :: c222 :: c223 :: c224 :: c225 :: c226 :: c227 :: c228 :: c229 :: c230 :: c231 :: c232 :: c233 :: c234 :: c235 :: c236 :: c237 :: c238 :: c239 :: c240 :: c241 :: c242 :: c243 :: c244 :: c245 :: c246 :: c247 :: c248 :: c249 :: c250 :: c251 :: c252 :: c253 :: c254 :: c255 :: c256 :: c257 :: c258 :: c259 :: c260 :: c261 :: c262 :: c263 :: c264 :: c265 :: c266 :: c267 :: c268 :: c269 :: []).toArray, []⟩ W')
    : Code.wp Try.prog (Code.loop overBody) (outPost 6 Nx Mx) ⟨(c0 :: c1 :: c2 :: c3 :: c4 :: c5 :: (.pointer (some ⟨R, 0, none⟩)) :: c7 :: c8 :: c9 :: (.bool false) :: c11 :: c12 :: c13 :: (.int .i64 0) :: c15 :: c16 :: c17 :: c18 :: c19 :: c20 :: c21 :: c22 :: c23 :: c24 :: c25 :: c26 :: c27 :: c28 :: c29 :: c30 :: c31 :: c32 :: c33 :: c34 :: c35 :: c36 :: c37 :: c38 :: c39 :: c40 :: c41 :: c42 :: c43 :: c44 :: c45 :: c46 :: c47 :: c48 :: c49 :: c50 :: c51 :: c52 :: c53 :: c54 :: c55 :: c56 :: c57 :: c58 :: c59 :: c60 :: c61 :: c62 :: c63 :: c64 :: c65 :: c66 :: c67 :: c68 :: c69 :: c70 :: c71 :: c72 :: c73 :: c74 :: c75 :: c76 :: c77 :: c78 :: c79 :: c80 :: c81 :: c82 :: c83 :: c84 :: c85 :: c86 :: c87 :: c88 :: c89 :: c90 :: c91 :: c92 :: c93 :: c94 :: c95 :: c96 :: c97 :: c98 :: c99 :: c100 :: c101 :: c102 :: c103 :: c104 :: c105 :: c106 :: c107 :: c108 :: c109 :: c110 :: c111 :: c112 :: c113 :: c114 :: c115 :: c116 :: c117 :: c118 :: c119 :: c120 :: c121 :: c122 :: c123 :: c124 :: c125 :: c126 :: c127 :: c128 :: c129 :: c130 :: c131 :: c132 :: c133 :: c134 :: c135 :: c136 :: c137 :: c138 :: c139 :: c140 :: c141 :: c142 :: c143 :: c144 :: c145 :: c146 :: c147 :: c148 :: c149 :: c150 :: c151 :: c152 :: c153 :: c154 :: c155 :: c156 :: c157 :: c158 :: c159 :: c160 :: c161 :: c162 :: c163 :: c164 :: c165 :: c166 :: c167 :: c168 :: c169 :: c170 :: c171 :: c172 :: c173 :: c174 :: c175 :: c176 :: c177 :: c178 :: c179 :: c180 :: c181 :: c182 :: c183 :: c184 :: c185 :: c186 :: c187 :: c188 :: c189 :: c190 :: c191 :: c192 :: c193 :: c194 :: c195 :: c196 :: c197 :: c198 :: c199 :: c200 :: c201 :: c202 :: c203 :: c204 :: c205 :: c206 :: c207 :: c208 :: c209 :: c210 :: c211 :: c212 :: c213 :: c214 :: c215 :: c216 :: c217 :: c218 :: c219 :: c220 :: c221 :: c222 :: c223 :: c224 :: c225 :: c226 :: c227 :: c228 :: c229 :: c230 :: c231 :: c232 :: c233 :: c234 :: c235 :: c236 :: c237 :: c238 :: c239 :: c240 :: c241 :: c242 :: c243 :: c244 :: c245 :: c246 :: c247 :: c248 :: c249 :: c250 :: c251 :: c252 :: c253 :: c254 :: c255 :: c256 :: c257 :: c258 :: c259 :: c260 :: c261 :: c262 :: c263 :: c264 :: c265 :: c266 :: c267 :: c268 :: c269 :: []).toArray, []⟩ w1 := by
  conv => arg 2; arg 1; whnf
  have Hm := Lib.hid hm
  have HI := Lib.hid hI
  have Hle := Lib.hid hle
  have Hex := Lib.hid hexit
  have hmax : nm ≤ 9223372036854775807 := by have := RowAt.max hI; omega
  clear hm hI hle hexit
  go_loopw [10, 14] (fun o i wr => ∃ k : Nat, k ≤ nm ∧ i = .int .i64 k ∧ o = .bool false ∧ Below w1.heap.size w1 wr) (fun _ i _ => nm - (intOf i).toNat)
  case atStart => exact ⟨0, by omega, rfl, rfl, Below.refl _ _⟩
  case round =>
    rename World => v1
    obtain ⟨k, hk, rfl, rfl, hbl⟩ := hrel
    have k1 := (below_cells hbl R 1 hR).trans hc
    have hR1 : R < v1.heap.size := Nat.lt_of_lt_of_le hR hbl.size
    by_cases hlt : k < nm
    · obtain ⟨z, hz⟩ := at_lt (l := m) (k := k) (by rw [← Hm.out]; exact hlt)
      have hlti : (k : Int) < (nm : Int) := by omega
      obtain ⟨g, off, rfl, hgw, e0⟩ := (HI.out.below hbl).at_ hz
      have hz1 : ¬ (1099511627776 : Int) < z := by have := Hle.out z (List.mem_of_getElem? hz); omega
      have hzb : decide ((1099511627776 : Int) < z) = false := decide_eq_false hz1
      have Hb := Lib.hid hbl
      clear hz hbl
      go_wp2
      go_roundw
      case rel => exact ⟨k + 1, by omega, by go_num, rfl, Hb.out⟩
      case measure => simp [intOf]; omega
    · have hge : ¬ (k : Int) < (nm : Int) := by omega
      have Hb := Lib.hid hbl
      clear hbl
      go_wp2
      exact And.intro rfl (Hex.out _ _ _ _ _ _ _ _ _ _ _ _ _ _ _ _ _ _ Hb.out)
end Go.Proofs.Ytpbbdnicafifpaa

/-! ## R9P -/
namespace Go.Proofs.Ytpbbdnicafifpaa
open Go.RowKit
set_option linter.unusedVariables false

noncomputable def outs0Body : Code := ((Try.f26.body.map loopsR).getD []).getD 6 .skip

set_option maxRecDepth 1000000 in
set_option maxHeartbeats 8000000 in
theorem outs0_loop {w0 w1 : World} {R bx : Nat} {n : Nt} {t : Int} {s : St} {x : Tr} {lg : List (Int × Int)} {more : List Row} {ao : Option Addr} {no co : Nat} {v0 v2 v3 v4 : Value} {way : List Int} {vq : Value} {c0 c1 c2 c3 c4 c5 c7 c11 c12 c13 c14 c15 c16 c18 c20 c21 c22 c23 c24 c25 c26 c27 c28 c29 c30 c31 c32 c33 c34 c35 c36 c37 c38 c39 c40 c41 c42 c43 c44 c45 c46 c47 c48 c49 c50 c51 c52 c53 c54 c55 c56 c57 c58 c59 c60 c61 c62 c63 c64 c65 c66 c67 c68 c69 c70 c71 c72 c73 c74 c75 c76 c77 c78 c79 c80 c81 c82 c83 c84 c85 c86 c87 c88 c89 c90 c91 c92 c93 c94 c95 c96 c97 c98 c99 c100 c101 c102 c103 c104 c105 c106 c107 c108 c109 c110 c111 c112 c113 c114 c115 c116 c117 c118 c119 c120 c121 c122 c123 c124 c125 c126 c127 c128 c129 c130 c131 c132 c133 c134 c135 c136 c137 c138 c139 c140 c141 c142 c143 c144 c145 c146 c147 c148 c149 c150 c151 c152 c153 c154 c155 c156 c157 c158 c159 c160 c161 c162 c163 c164 c165 c166 c167 c168 c169 c170 c171 c172 c173 c174 c175 c176 c177 c178 c179 c180 c181 c182 c183 c184 c185 c186 c187 c188 c189 c190 c191 c192 c193 c194 c195 c196 c197 c198 c199 c200 c201 c202 c203 c204 c205 c206 c207 c208 c209 c210 c211 c212 c213 c214 c215 c216 c217 c218 c219 c220 c221 c222 c223 c224 c225 c226 c227 c228 c229 c230 c231 c232 c233 c234 c235 c236 c237 c238 c239 c240 c241 c242 c243 c244 c245 c246 c247 c248 c249 c250 c251 c252 c253 c254 c255 c256 c257 c258 c259 c260 c261 c262 c263 c264 c265 c266 c267 c268 c269 : Value} {Nx Mx : Act → World → Prop}
    (hno : no = x.out.length) (hn : NOk n) (hI : Inv n t s) (hx : x ∈ n.trans) (hA : ArcsAt w0 (.slice ao no co) x.out) (hm : mayB s.m x.inn x.nt = true) (hd : x.delay = 0) (hway : 0 < s.m.length → 0 < way.length) (hbx : boxRow bx 79 [v0, .int .i64 x.delay, v2, v3, v4, .slice ao no co] ∈ more) (hR : RefAt w0 w1 R t lg (takeL x.inn s.m) way more)
    (hexit : ∀  (u19 u20 u185 u186 u187 u188 u189 u190 u191 u192 u193 u194 u195 u196 u197 u198 u199 u200 u201 u202 u203 u204 u205 u206 u207 u208 u209 u210 u211 u212 u213 u214 u215 u216 u217 u218 u219 u220 u221 u222 u223 u224 u225 u226 u227 u228 u229 u230 u231 u232 u233 u234 u235 u236 u237 u238 u239 u240 u241 : Value) (W' : World), RefAt w0 W' R t lg ((outs t 0 x.out).foldl addE (takeL x.inn s.m)) way more → Nx ⟨(c0 :: c1 :: c2 :: c3 :: c4 :: c5 :: (.pointer (some ⟨R, 0, none⟩)) :: c7 :: vq :: (.int .i64 t) :: (.bool false) :: c11 :: c12 :: c13 :: c14 :: c15 :: c16 :: (.pointer (some ⟨bx, 0, none⟩)) :: c18 :: u19 :: u20 :: c21 :: c22 :: c23 :: c24 :: c25 :: c26 :: c27 :: c28 :: c29 :: c30 :: c31 :: c32 :: c33 :: c34 :: c35 :: c36 :: c37 :: c38 :: c39 :: c40 :: c41 :: c42 :: c43 :: c44 :: c45 :: c46 :: c47 :: c48 :: c49 :: c50 :: c51 :: c52 :: c53 :: c54 :: c55 :: c56 :: c57 :: c58 :: c59 :: c60 :: c61 :: c62 :: c63 :: c64 :: c65 :: c66 :: c67 :: c68 :: c69 :: c70 :: c71 :: c72 :: c73 :: c74 :: c75 :: c76 :: c77 :: c78 :: c79 :: c80 :: c81 :: c82 :: c83 :: c84 :: c85 :: c86 :: c87 :: c88 :: c89 :: c90 :: c91 :: c92 :: c93 :: c94 :: c95 :: c96 :: c97 :: c98 :: c99 :: c100 :: c101 :: c102 :: c103 :: c104 :: c105 :: c106 :: c107 :: c108 :: c109 :: c110 :: c111 :: c112 :: c113 :: c114 :: c115 :: c116 :: c117 :: c118 :: c119 :: c120 :: c121 :: c122 :: c123 :: c124 :: c125 :: c126 :: c127 :: c128 :: c129 :: c130 :: c131 :: c132 :: c133 :: c134 :: c135 :: c136 :: c137 :: c138 :: c139 :: c140 :: c141 :: c142 :: c143 :: c144 :: c145 :: c146 :: c147 :: c148 :: c149 :: c150 :: c151 :: c152 :: c153 :: c154 :: c155 :: c156 :: c157 :: c158 :: c159 :: c160 :: c161 :: c162 :: c163 :: c164 :: c165 :: c166 :: c167 :: c168 :: c169 :: c170 :: c171 :: c172 :: c173 :: c174 :: c175 :: c176 :: c177 :: c178 :: c179 :: c180 :: c181 :: c182 :: c183 :: c184 :: u185 :: u186 :: u187 :: u188 :: u189 :: u190 :: u191 :: u192 :: u193 :: u194 :: u195 :: u196 :: u197 :: u198 :: u199 :: u200 :: u201 :: u202 :: u203 :: u204 :: u205 :: u206 :: u207 :: u208 :: u209 :: u210 :: u211 :: u212 :: u213 :: u214 :: u215 :: u216 :: u217 :: u218 :: u219 :: u220 :: u221 :: u222 :: u223 :: u224 :: u225 :: u226 :: u227 :: u228 :: u229 :: u230 :: u231 :: u232 :: u233 :: u234 :: u235 :: u236 :: u237 :: u238 :: u239 :: u240 :: u241 :: c242 :: c243 :: c244 :: c245 :: c246 :: c247 :: c248 :: c249 :: c250 :: c251 :: c252 :: c253 :: c254 :: c255 :: c256 :: c257 :: c258 :: c259 :: c260 :: c261 :: c262 :: c263 :: c264 :: c265 :: c266 :: c267 :: c268 :: c269 :: []).toArray, []⟩ W')
    : Code.wp Try.prog (Code.loop outs0Body) (outPost 12 Nx Mx) ⟨(c0 :: c1 :: c2 :: c3 :: c4 :: c5 :: (.pointer (some ⟨R, 0, none⟩)) :: c7 :: vq :: (.int .i64 t) :: (.bool false) :: c11 :: c12 :: c13 :: c14 :: c15 :: c16 :: (.pointer (some ⟨bx, 0, none⟩)) :: c18 :: (.int .i64 0) :: c20 :: c21 :: c22 :: c23 :: c24 :: c25 :: c26 :: c27 :: c28 :: c29 :: c30 :: c31 :: c32 :: c33 :: c34 :: c35 :: c36 :: c37 :: c38 :: c39 :: c40 :: c41 :: c42 :: c43 :: c44 :: c45 :: c46 :: c47 :: c48 :: c49 :: c50 :: c51 :: c52 :: c53 :: c54 :: c55 :: c56 :: c57 :: c58 :: c59 :: c60 :: c61 :: c62 :: c63 :: c64 :: c65 :: c66 :: c67 :: c68 :: c69 :: c70 :: c71 :: c72 :: c73 :: c74 :: c75 :: c76 :: c77 :: c78 :: c79 :: c80 :: c81 :: c82 :: c83 :: c84 :: c85 :: c86 :: c87 :: c88 :: c89 :: c90 :: c91 :: c92 :: c93 :: c94 :: c95 :: c96 :: c97 :: c98 :: c99 :: c100 :: c101 :: c102 :: c103 :: c104 :: c105 :: c106 :: c107 :: c108 :: c109 :: c110 :: c111 :: c112 :: c113 :: c114 :: c115 :: c116 :: c117 :: c118 :: c119 :: c120 :: c121 :: c122 :: c123 :: c124 :: c125 :: c126 :: c127 :: c128 :: c129 :: c130 :: c131 :: c132 :: c133 :: c134 :: c135 :: c136 :: c137 :: c138 :: c139 :: c140 :: c141 :: c142 :: c143 :: c144 :: c145 :: c146 :: c147 :: c148 :: c149 :: c150 :: c151 :: c152 :: c153 :: c154 :: c155 :: c156 :: c157 :: c158 :: c159 :: c160 :: c161 :: c162 :: c163 :: c164 :: c165 :: c166 :: c167 :: c168 :: c169 :: c170 :: c171 :: c172 :: c173 :: c174 :: c175 :: c176 :: c177 :: c178 :: c179 :: c180 :: c181 :: c182 :: c183 :: c184 :: c185 :: c186 :: c187 :: c188 :: c189 :: c190 :: c191 :: c192 :: c193 :: c194 :: c195 :: c196 :: c197 :: c198 :: c199 :: c200 :: c201 :: c202 :: c203 :: c204 :: c205 :: c206 :: c207 :: c208 :: c209 :: c210 :: c211 :: c212 :: c213 :: c214 :: c215 :: c216 :: c217 :: c218 :: c219 :: c220 :: c221 :: c222 :: c223 :: c224 :: c225 :: c226 :: c227 :: c228 :: c229 :: c230 :: c231 :: c232 :: c233 :: c234 :: c235 :: c236 :: c237 :: c238 :: c239 :: c240 :: c241 :: c242 :: c243 :: c244 :: c245 :: c246 :: c247 :: c248 :: c249 :: c250 :: c251 :: c252 :: c253 :: c254 :: c255 :: c256 :: c257 :: c258 :: c259 :: c260 :: c261 :: c262 :: c263 :: c264 :: c265 :: c266 :: c267 :: c268 :: c269 :: []).toArray, []⟩ w1 := by
  conv => arg 2; arg 1; whnf
  have Hno := Lib.hid hno
  have HN := Lib.hid hn
  have HI := Lib.hid hI
  have Hx := Lib.hid hx
  have HA := Lib.hid hA
  have HR := Lib.hid hR
  have Hex := Lib.hid hexit
  have hmax : no ≤ 9223372036854775807 := by have := RowAt.max hA; omega
  have Hm := Lib.hid hm
  have Hd := Lib.hid hd
  have Hbx := Lib.hid hbx
  have Hwl := Lib.hid hway
  clear hno hn hI hx hA hR hexit hm hd hbx hway
  go_loopw [8, 10, 19] (fun q o i wr => ∃ k : Nat, k ≤ no ∧ i = .int .i64 k ∧ o = .bool false ∧ q = vq ∧ RefAt w0 wr R t lg (nowTo t x.out (takeL x.inn s.m) k) way more) (fun _ _ i _ => no - (intOf i).toNat)
  case atStart => exact ⟨0, by omega, rfl, rfl, rfl, HR.out⟩
  case round =>
    rename World => v1w
    obtain ⟨k, hk, rfl, rfl, rfl, hr⟩ := hrel
    have b5 : v1w.cell? ⟨bx, 5, none⟩ = some (.slice ao no co) := boxRow.cell (hr.mem (r := boxRow bx 79 [v0, .int .i64 x.delay, v2, v3, v4, .slice ao no co]) (by first | exact Hbx.out | (rw [List.mem_cons]; exact .inr Hbx.out))) rfl
    have b1 : v1w.cell? ⟨bx, 1, none⟩ = some (.int .i64 x.delay) := boxRow.cell (hr.mem (r := boxRow bx 79 [v0, .int .i64 x.delay, v2, v3, v4, .slice ao no co]) (by first | exact Hbx.out | (rw [List.mem_cons]; exact .inr Hbx.out))) rfl
    have bl : bx < v1w.heap.size := (boxRow.lt (hr.mem (r := boxRow bx 79 [v0, .int .i64 x.delay, v2, v3, v4, .slice ao no co]) (by first | exact Hbx.out | (rw [List.mem_cons]; exact .inr Hbx.out)))).2
    have hRl := hr.lt.2
    have hd0 := Hd.out
    rw [hd0] at b1
    by_cases hlt : k < no
    · obtain ⟨⟨xx, y⟩, hxx⟩ := at_lt (l := x.out) (k := k) (by rw [← Hno.out]; exact hlt)
      have hlti : (k : Int) < (no : Int) := by omega
      obtain ⟨ba, off, rfl, hbw1, e0, e1⟩ := ArcsAt.at_ (RowAt.below HA.out hr.low) hxx
      obtain ⟨p, hp0, hp, z, hz, hz0, hy1, hz1, hset⟩ := now_next HN.out HI.out Hx.out Hm.out hxx
      simp only at hp0 hy1 hz1 hset e0 e1
      subst hp0
      have hbox := hr.add ((Below.refl _ _).alloc (Nat.le_refl _) (.cells #[.int .i64 (p : Int), .int .i64 y] 76)) (boxRow.new _ v1w 76 #[.int .i64 (p : Int), .int .i64 y] hr.low.size) (fun k e => by injection e with e; subst e; exact Nat.le_refl _)
      have Hbox := Lib.hid hbox
      obtain ⟨bA, hbA⟩ : ∃ q, q = v1w.heap.size := ⟨_, rfl⟩
      have HbA := Lib.hid hbA
      have Hlm : Hid ((takeL x.inn s.m).length = s.m.length) := Lib.hid (by
        have hs := HI.out.sum
        have htE : 0 ≤ totE s.q := totE_pos _ HI.out.evs
        have hll := HI.out.ll
        exact (take_ok x.inn s.m HI.out.pos (by omega) (fun b hb => by rw [HI.out.len]; exact ⟨(HN.out.inn x Hx.out b hb).1, (HN.out.inn x Hx.out b hb).2.1⟩) (may_in Hm.out) (HN.out.dist x Hx.out)).1)
      have Hgo : Hid (∀ V : World, RefAt w0 V R t lg (nowTo t x.out (takeL x.inn s.m) k) way (more ++ [boxRow bA 76 [.int .i64 (p : Int), .int .i64 y]]) → ∃ bm cm, V.cell? ⟨R, 1, none⟩ = some (.slice (some ⟨bm, 0, none⟩) s.m.length cm) ∧ V.cell? ⟨bm, p, none⟩ = some (.int .i64 z) ∧ V.frozen? ⟨bm, p, none⟩ = false ∧ bm < V.heap.size ∧ R < V.heap.size ∧ R ≠ bm ∧ bx ≠ bm ∧ bA ≠ bm ∧ V.cell? ⟨bA, 0, none⟩ = some (.int .i64 (p : Int)) ∧ V.cell? ⟨bA, 1, none⟩ = some (.int .i64 y) ∧ bA < V.heap.size ∧ V.cell? ⟨bx, 1, none⟩ = some (.int .i64 0) ∧ bx < V.heap.size ∧ RefAt w0 (V.setCell ⟨bm, p, none⟩ (.int .i64 (z + y))) R t lg (nowTo t x.out (takeL x.inn s.m) (k + 1)) way more) := Lib.hid (fun V hV => by
        have hl : (nowTo t x.out (takeL x.inn s.m) k).length = s.m.length := by rw [nowTo_len, Hlm.out]
        obtain ⟨bm, cm, bw, cw, k1, -, hM, -, n1, -, -, tM, -, -, hoff⟩ := hV.both (by rw [hl]; omega) (by have := Hwl.out; omega)
        have hB := hV.mem (r := boxRow bA 76 [.int .i64 (p : Int), .int .i64 y]) (by simp)
        have hT := hV.mem (r := boxRow bx 79 [v0, .int .i64 x.delay, v2, v3, v4, .slice (some ⟨ba, off, none⟩) no co]) (by rw [List.mem_append]; exact .inl Hbx.out)
        have h2 := tM V (Below.refl _ _) p (z + y) (by rw [hl]; exact hp)
        rw [← hset] at h2
        rw [hl] at k1
        have hbx1 := boxRow.cell hT (j := 1) rfl
        rw [Hd.out] at hbx1
        exact ⟨bm, cm, k1, hM.cell hz, hM.froz p, hM.lt.2, hV.lt.2, n1, (hoff (boxRow bx 79 [v0, .int .i64 x.delay, v2, v3, v4, .slice (some ⟨ba, off, none⟩) no co]) (by rw [List.mem_append]; exact .inl Hbx.out) bx rfl).1, (hoff (boxRow bA 76 [.int .i64 (p : Int), .int .i64 y]) (by simp) bA rfl).1, boxRow.cell hB rfl, boxRow.cell hB rfl, (boxRow.lt hB).2, hbx1, (boxRow.lt hT).2, h2.sub (List.sublist_append_left _ _)⟩)
      obtain ⟨P, hP⟩ : ∃ P, P = s.m.length := ⟨_, rfl⟩
      rw [← hP] at Hgo hp
      have hpi : (p : Int) < (P : Int) := by omega
      have hzy : ¬ (1099511627776 : Int) < z + y := by omega
      have hzyb : decide ((1099511627776 : Int) < z + y) = false := decide_eq_false hzy
      have hb1 : -9223372036854775808 ≤ z + y := by omega
      have hb2 : z + y ≤ 9223372036854775807 := by omega
      have hwr : IntKind.i64.wrap (z + y) = z + y := IntWalk.i64_in _ (by omega)
      clear hxx hz hz0 hy1 hz1 hset hr hP Hlm
      clear hd0 hbox
      rw [← HbA.out] at Hbox
      go_upto_region 48 with (fail)
      rw [← HbA.out]
      clear hbA HbA b1 b5 bl hRl e0 e1 hbw1
      revert Hbox
      generalize (v1w.alloc (.cells #[.int .i64 (p : Int), .int .i64 y] 76)) = V
      intro Hbox
      obtain ⟨bm, cm, k1, d0, f0, m0, r0, n1, n2, n3, a0, a1, al, x1, xl, h2⟩ := Hgo.out V Hbox.out
      have H2 := Lib.hid h2
      have n3' : ¬ bm = bA := fun e => n3 e.symm
      have n1' : ¬ bm = R := fun e => n1 e.symm
      clear h2 Hgo Hbox
      go_wp2
      go_region
      go_wp2
      go_roundw
      case rel => exact ⟨k + 1, by omega, by go_num, rfl, rfl, H2.out.go (by first | exact (Below.refl _ _).drew | exact Below.refl _ _ | exact drewNb _ _)⟩
      case measure => simp [intOf]; omega
    · have hge : ¬ (k : Int) < (no : Int) := by omega
      have e : nowTo t x.out (takeL x.inn s.m) k = (outs t 0 x.out).foldl addE (takeL x.inn s.m) := by unfold nowTo; rw [List.take_of_length_le (by rw [← Hno.out]; omega)]
      rw [e] at hr
      have Hr := Lib.hid hr
      clear hr e
      go_wp2
      exact And.intro rfl (Hex.out _ _ _ _ _ _ _ _ _ _ _ _ _ _ _ _ _ _ _ _ _ _ _ _ _ _ _ _ _ _ _ _ _ _ _ _ _ _ _ _ _ _ _ _ _ _ _ _ _ _ _ _ _ _ _ _ _ _ _ _ Hr.out)
end Go.Proofs.Ytpbbdnicafifpaa

/-! ## R9Q -/
namespace Go.Proofs.Ytpbbdnicafifpaa
open Go.RowKit
set_option linter.unusedVariables false

noncomputable def outs1Body : Code := ((Try.f26.body.map loopsR).getD []).getD 6 .skip

set_option maxRecDepth 1000000 in
set_option maxHeartbeats 8000000 in
theorem outs1_loop {w0 w1 : World} {R bx : Nat} {n : Nt} {t : Int} {s : St} {x : Tr} {lg : List (Int × Int)} {more : List Row} {ao : Option Addr} {no co : Nat} {v0 v2 v3 v4 : Value} {m : List Int} {aq : Option Addr} {nq cq : Nat} {c0 c1 c2 c3 c4 c5 c7 c11 c12 c13 c14 c15 c16 c18 c20 c21 c22 c23 c24 c25 c26 c27 c28 c29 c30 c31 c32 c33 c34 c35 c36 c37 c38 c39 c40 c41 c42 c43 c44 c45 c46 c47 c48 c49 c50 c51 c52 c53 c54 c55 c56 c57 c58 c59 c60 c61 c62 c63 c64 c65 c66 c67 c68 c69 c70 c71 c72 c73 c74 c75 c76 c77 c78 c79 c80 c81 c82 c83 c84 c85 c86 c87 c88 c89 c90 c91 c92 c93 c94 c95 c96 c97 c98 c99 c100 c101 c102 c103 c104 c105 c106 c107 c108 c109 c110 c111 c112 c113 c114 c115 c116 c117 c118 c119 c120 c121 c122 c123 c124 c125 c126 c127 c128 c129 c130 c131 c132 c133 c134 c135 c136 c137 c138 c139 c140 c141 c142 c143 c144 c145 c146 c147 c148 c149 c150 c151 c152 c153 c154 c155 c156 c157 c158 c159 c160 c161 c162 c163 c164 c165 c166 c167 c168 c169 c170 c171 c172 c173 c174 c175 c176 c177 c178 c179 c180 c181 c182 c183 c184 c185 c186 c187 c188 c189 c190 c191 c192 c193 c194 c195 c196 c197 c198 c199 c200 c201 c202 c203 c204 c205 c206 c207 c208 c209 c210 c211 c212 c213 c214 c215 c216 c217 c218 c219 c220 c221 c222 c223 c224 c225 c226 c227 c228 c229 c230 c231 c232 c233 c234 c235 c236 c237 c238 c239 c240 c241 c242 c243 c244 c245 c246 c247 c248 c249 c250 c251 c252 c253 c254 c255 c256 c257 c258 c259 c260 c261 c262 c263 c264 c265 c266 c267 c268 c269 : Value} {Nx Mx : Act → World → Prop}
    (hno : no = x.out.length) (hn : NOk n) (hI : Inv n t s) (hx : x ∈ n.trans) (hA : ArcsAt w0 (.slice ao no co) x.out) (hd : 0 < x.delay) (hml : m.length = s.m.length) (hnq : nq = s.q.length) (hbx : boxRow bx 79 [v0, .int .i64 x.delay, v2, v3, v4, .slice ao no co] ∈ more) (hR : RefAt w0 w1 R t lg m (wayL s.m.length s.q) (evRow (.slice aq nq cq) s.q :: more))
    (hexit : ∀ (a : Option Addr) (nr c : Nat) (u19 u20 u185 u186 u187 u188 u189 u190 u191 u192 u193 u194 u195 u196 u197 u198 u199 u200 u201 u202 u203 u204 u205 u206 u207 u208 u209 u210 u211 u212 u213 u214 u215 u216 u217 u218 u219 u220 u221 u222 u223 u224 u225 u226 u227 u228 u229 u230 u231 u232 u233 u234 u235 u236 u237 u238 u239 u240 u241 : Value) (W' : World), RefAt w0 W' R t lg m (wayL s.m.length (s.q ++ outs t x.delay x.out)) (evRow (.slice a nr c) (s.q ++ outs t x.delay x.out) :: more) → nr = (s.q ++ outs t x.delay x.out).length → Nx ⟨(c0 :: c1 :: c2 :: c3 :: c4 :: c5 :: (.pointer (some ⟨R, 0, none⟩)) :: c7 :: (.slice a nr c) :: (.int .i64 t) :: (.bool false) :: c11 :: c12 :: c13 :: c14 :: c15 :: c16 :: (.pointer (some ⟨bx, 0, none⟩)) :: c18 :: u19 :: u20 :: c21 :: c22 :: c23 :: c24 :: c25 :: c26 :: c27 :: c28 :: c29 :: c30 :: c31 :: c32 :: c33 :: c34 :: c35 :: c36 :: c37 :: c38 :: c39 :: c40 :: c41 :: c42 :: c43 :: c44 :: c45 :: c46 :: c47 :: c48 :: c49 :: c50 :: c51 :: c52 :: c53 :: c54 :: c55 :: c56 :: c57 :: c58 :: c59 :: c60 :: c61 :: c62 :: c63 :: c64 :: c65 :: c66 :: c67 :: c68 :: c69 :: c70 :: c71 :: c72 :: c73 :: c74 :: c75 :: c76 :: c77 :: c78 :: c79 :: c80 :: c81 :: c82 :: c83 :: c84 :: c85 :: c86 :: c87 :: c88 :: c89 :: c90 :: c91 :: c92 :: c93 :: c94 :: c95 :: c96 :: c97 :: c98 :: c99 :: c100 :: c101 :: c102 :: c103 :: c104 :: c105 :: c106 :: c107 :: c108 :: c109 :: c110 :: c111 :: c112 :: c113 :: c114 :: c115 :: c116 :: c117 :: c118 :: c119 :: c120 :: c121 :: c122 :: c123 :: c124 :: c125 :: c126 :: c127 :: c128 :: c129 :: c130 :: c131 :: c132 :: c133 :: c134 :: c135 :: c136 :: c137 :: c138 :: c139 :: c140 :: c141 :: c142 :: c143 :: c144 :: c145 :: c146 :: c147 :: c148 :: c149 :: c150 :: c151 :: c152 :: c153 :: c154 :: c155 :: c156 :: c157 :: c158 :: c159 :: c160 :: c161 :: c162 :: c163 :: c164 :: c165 :: c166 :: c167 :: c168 :: c169 :: c170 :: c171 :: c172 :: c173 :: c174 :: c175 :: c176 :: c177 :: c178 :: c179 :: c180 :: c181 :: c182 :: c183 :: c184 :: u185 :: u186 :: u187 :: u188 :: u189 :: u190 :: u191 :: u192 :: u193 :: u194 :: u195 :: u196 :: u197 :: u198 :: u199 :: u200 :: u201 :: u202 :: u203 :: u204 :: u205 :: u206 :: u207 :: u208 :: u209 :: u210 :: u211 :: u212 :: u213 :: u214 :: u215 :: u216 :: u217 :: u218 :: u219 :: u220 :: u221 :: u222 :: u223 :: u224 :: u225 :: u226 :: u227 :: u228 :: u229 :: u230 :: u231 :: u232 :: u233 :: u234 :: u235 :: u236 :: u237 :: u238 :: u239 :: u240 :: u241 :: c242 :: c243 :: c244 :: c245 :: c246 :: c247 :: c248 :: c249 :: c250 :: c251 :: c252 :: c253 :: c254 :: c255 :: c256 :: c257 :: c258 :: c259 :: c260 :: c261 :: c262 :: c263 :: c264 :: c265 :: c266 :: c267 :: c268 :: c269 :: []).toArray, []⟩ W')
    : Code.wp Try.prog (Code.loop outs1Body) (outPost 12 Nx Mx) ⟨(c0 :: c1 :: c2 :: c3 :: c4 :: c5 :: (.pointer (some ⟨R, 0, none⟩)) :: c7 :: (.slice aq nq cq) :: (.int .i64 t) :: (.bool false) :: c11 :: c12 :: c13 :: c14 :: c15 :: c16 :: (.pointer (some ⟨bx, 0, none⟩)) :: c18 :: (.int .i64 0) :: c20 :: c21 :: c22 :: c23 :: c24 :: c25 :: c26 :: c27 :: c28 :: c29 :: c30 :: c31 :: c32 :: c33 :: c34 :: c35 :: c36 :: c37 :: c38 :: c39 :: c40 :: c41 :: c42 :: c43 :: c44 :: c45 :: c46 :: c47 :: c48 :: c49 :: c50 :: c51 :: c52 :: c53 :: c54 :: c55 :: c56 :: c57 :: c58 :: c59 :: c60 :: c61 :: c62 :: c63 :: c64 :: c65 :: c66 :: c67 :: c68 :: c69 :: c70 :: c71 :: c72 :: c73 :: c74 :: c75 :: c76 :: c77 :: c78 :: c79 :: c80 :: c81 :: c82 :: c83 :: c84 :: c85 :: c86 :: c87 :: c88 :: c89 :: c90 :: c91 :: c92 :: c93 :: c94 :: c95 :: c96 :: c97 :: c98 :: c99 :: c100 :: c101 :: c102 :: c103 :: c104 :: c105 :: c106 :: c107 :: c108 :: c109 :: c110 :: c111 :: c112 :: c113 :: c114 :: c115 :: c116 :: c117 :: c118 :: c119 :: c120 :: c121 :: c122 :: c123 :: c124 :: c125 :: c126 :: c127 :: c128 :: c129 :: c130 :: c131 :: c132 :: c133 :: c134 :: c135 :: c136 :: c137 :: c138 :: c139 :: c140 :: c141 :: c142 :: c143 :: c144 :: c145 :: c146 :: c147 :: c148 :: c149 :: c150 :: c151 :: c152 :: c153 :: c154 :: c155 :: c156 :: c157 :: c158 :: c159 :: c160 :: c161 :: c162 :: c163 :: c164 :: c165 :: c166 :: c167 :: c168 :: c169 :: c170 :: c171 :: c172 :: c173 :: c174 :: c175 :: c176 :: c177 :: c178 :: c179 :: c180 :: c181 :: c182 :: c183 :: c184 :: c185 :: c186 :: c187 :: c188 :: c189 :: c190 :: c191 :: c192 :: c193 :: c194 :: c195 :: c196 :: c197 :: c198 :: c199 :: c200 :: c201 :: c202 :: c203 :: c204 :: c205 :: c206 :: c207 :: c208 :: c209 :: c210 :: c211 :: c212 :: c213 :: c214 :: c215 :: c216 :: c217 :: c218 :: c219 :: c220 :: c221 :: c222 :: c223 :: c224 :: c225 :: c226 :: c227 :: c228 :: c229 :: c230 :: c231 :: c232 :: c233 :: c234 :: c235 :: c236 :: c237 :: c238 :: c239 :: c240 :: c241 :: c242 :: c243 :: c244 :: c245 :: c246 :: c247 :: c248 :: c249 :: c250 :: c251 :: c252 :: c253 :: c254 :: c255 :: c256 :: c257 :: c258 :: c259 :: c260 :: c261 :: c262 :: c263 :: c264 :: c265 :: c266 :: c267 :: c268 :: c269 :: []).toArray, []⟩ w1 := by
  conv => arg 2; arg 1; whnf
  have Hno := Lib.hid hno
  have HN := Lib.hid hn
  have HI := Lib.hid hI
  have Hx := Lib.hid hx
  have HA := Lib.hid hA
  have HR := Lib.hid hR
  have Hex := Lib.hid hexit
  have hmax : no ≤ 9223372036854775807 := by have := RowAt.max hA; omega
  have Hd := Lib.hid hd
  have Hbx := Lib.hid hbx
  have Hnq := Lib.hid hnq
  have Hml := Lib.hid hml
  clear hno hn hI hx hA hR hexit hd hbx hnq hml
  go_loopw [8, 10, 19] (fun q o i wr => ∃ (k : Nat) (a : Option Addr) (nr c : Nat), k ≤ no ∧ i = .int .i64 k ∧ o = .bool false ∧ q = .slice a nr c ∧ RefAt w0 wr R t lg m (wayL s.m.length (s.q ++ outs t x.delay (x.out.take k))) (evRow (.slice a nr c) (s.q ++ outs t x.delay (x.out.take k)) :: more) ∧ Hid (nr = (s.q ++ outs t x.delay (x.out.take k)).length)) (fun _ _ i _ => no - (intOf i).toNat)
  case atStart => exact ⟨0, aq, nq, cq, by omega, rfl, rfl, rfl, by have := HR.out; simpa [outs] using this, Lib.hid (by rw [Hnq.out]; simp [outs])⟩
  case round =>
    rename World => v1w
    obtain ⟨k, a, nr, c, hk, rfl, rfl, rfl, hr, Hnr⟩ := hrel
    have b5 : v1w.cell? ⟨bx, 5, none⟩ = some (.slice ao no co) := boxRow.cell (hr.mem (r := boxRow bx 79 [v0, .int .i64 x.delay, v2, v3, v4, .slice ao no co]) (by first | exact Hbx.out | (rw [List.mem_cons]; exact .inr Hbx.out))) rfl
    have b1 : v1w.cell? ⟨bx, 1, none⟩ = some (.int .i64 x.delay) := boxRow.cell (hr.mem (r := boxRow bx 79 [v0, .int .i64 x.delay, v2, v3, v4, .slice ao no co]) (by first | exact Hbx.out | (rw [List.mem_cons]; exact .inr Hbx.out))) rfl
    have bl : bx < v1w.heap.size := (boxRow.lt (hr.mem (r := boxRow bx 79 [v0, .int .i64 x.delay, v2, v3, v4, .slice ao no co]) (by first | exact Hbx.out | (rw [List.mem_cons]; exact .inr Hbx.out)))).2
    have hRl := hr.lt.2
    have hd0 := Hd.out
    by_cases hlt : k < no
    · obtain ⟨⟨xx, y⟩, hxx⟩ := at_lt (l := x.out) (k := k) (by rw [← Hno.out]; exact hlt)
      have hlti : (k : Int) < (no : Int) := by omega
      obtain ⟨ba, off, rfl, hbw1, e0, e1⟩ := ArcsAt.at_ (RowAt.below HA.out hr.low) hxx
      obtain ⟨p, hp0, hp, z, hz, hz0, hy1, hz1, hset⟩ := way_more (t := t) HN.out HI.out Hx.out hxx
      have hsn := outs_snoc t x.delay hxx
      simp only at hp0 hy1 hz1 hset e0 e1 hsn
      subst hp0
      have hbox := hr.add ((Below.refl _ _).alloc (Nat.le_refl _) (.cells #[.int .i64 (p : Int), .int .i64 y] 76)) (boxRow.new _ v1w 76 #[.int .i64 (p : Int), .int .i64 y] hr.low.size) (fun k e => by injection e with e; subst e; exact Nat.le_refl _)
      have Hbox := Lib.hid hbox
      obtain ⟨bA, hbA⟩ : ∃ q, q = v1w.heap.size := ⟨_, rfl⟩
      have HbA := Lib.hid hbA
      obtain ⟨q0, hq0⟩ : ∃ q, q = s.q ++ outs t x.delay (x.out.take k) := ⟨_, rfl⟩
      have hq1 : s.q ++ outs t x.delay (x.out.take (k + 1)) = q0 ++ [⟨t + x.delay, (p : Int), y⟩] := by rw [hsn, hq0, List.append_assoc]
      have Hq1 := Lib.hid hq1
      have hql : q0.length ≤ 1000000 := by
        have h1 := HI.out.ql
        have h2 := HI.out.ll
        have h3 := (HN.out.len x Hx.out).2.2
        have h4 : (x.out.take k).length ≤ x.out.length := List.length_take_le' _ _
        have h5 : (outs t x.delay (x.out.take k)).length = (x.out.take k).length := by unfold outs; simp
        rw [hq0, List.length_append]; omega
      have hdb := HN.out.dly x Hx.out
      have htb := HI.out.tb
      have hll := HI.out.ll
      rw [← hq0] at Hbox hset hz Hnr
      have Hgo : Hid (∀ V : World, RefAt w0 V R t lg m (wayL s.m.length q0) (evRow (.slice a nr c) q0 :: more ++ [boxRow bA 76 [.int .i64 (p : Int), .int .i64 y]]) → ∃ bw cw, V.cell? ⟨R, 2, none⟩ = some (.slice (some ⟨bw, 0, none⟩) s.m.length cw) ∧ V.cell? ⟨bw, p, none⟩ = some (.int .i64 z) ∧ V.frozen? ⟨bw, p, none⟩ = false ∧ bw < V.heap.size ∧ R < V.heap.size ∧ RefAt w0 (V.setCell ⟨bw, p, none⟩ (.int .i64 (z + y))) R t lg m (wayL s.m.length (q0 ++ [⟨t + x.delay, (p : Int), y⟩])) (evRow (.slice a nr c) q0 :: more ++ [boxRow bA 76 [.int .i64 (p : Int), .int .i64 y]])) := Lib.hid (fun V hV => by
        obtain ⟨bm, cm, bw, cw, -, k2, -, hW, -, n2, -, -, tW, -, -⟩ := hV.both (by rw [Hml.out]; omega) (by rw [wayL_size]; omega)
        have h2 := tW V (Below.refl _ _) p (z + y) (by rw [wayL_size]; exact hp)
        rw [← hset, hq1] at h2
        rw [wayL_size] at k2
        exact ⟨bw, cw, k2, hW.cell hz, hW.froz p, hW.lt.2, hV.lt.2, h2⟩)
      have Hbc : Hid (∀ V m2 wy q2 vv2, RefAt w0 V R t lg m2 wy (evRow vv2 q2 :: more ++ [boxRow bA 76 [.int .i64 (p : Int), .int .i64 y]]) → V.cell? ⟨bA, 0, none⟩ = some (.int .i64 (p : Int)) ∧ V.cell? ⟨bA, 1, none⟩ = some (.int .i64 y) ∧ bA < V.heap.size ∧ V.cell? ⟨bx, 1, none⟩ = some (.int .i64 x.delay) ∧ bx < V.heap.size) := Lib.hid (fun V m2 wy q2 vv2 hV => by
        have hB := hV.mem (r := boxRow bA 76 [.int .i64 (p : Int), .int .i64 y]) (by simp)
        have hT := hV.mem (r := boxRow bx 79 [v0, .int .i64 x.delay, v2, v3, v4, .slice (some ⟨ba, off, none⟩) no co]) (by rw [List.mem_append, List.mem_cons]; exact .inl (.inr Hbx.out))
        exact ⟨boxRow.cell hB rfl, boxRow.cell hB rfl, (boxRow.lt hB).2, boxRow.cell hT rfl, (boxRow.lt hT).2⟩)
      obtain ⟨P, hP⟩ : ∃ P, P = s.m.length := ⟨_, rfl⟩
      rw [← hP] at Hgo hp Hbox
      have HP := Lib.hid hP
      obtain ⟨dl, hdl⟩ : ∃ d, d = x.delay := ⟨_, rfl⟩
      have Hdl := Lib.hid hdl
      have hdlb : (dl == 0) = false := by rw [hdl]; simp; omega
      rw [← hdl] at Hgo Hbc b1 hdb Hq1
      have hpi : (p : Int) < (P : Int) := by omega
      have hwr : IntKind.i64.wrap (z + y) = z + y := IntWalk.i64_in _ (by omega)
      have hwr2 : IntKind.i64.wrap (t + dl) = t + dl := IntWalk.i64_in _ (by omega)
      have hb1 : -9223372036854775808 ≤ z + y := by omega
      have hb2 : z + y ≤ 9223372036854775807 := by omega
      have hb3 : -9223372036854775808 ≤ t + dl := by omega
      have hb4 : t + dl ≤ 9223372036854775807 := by omega
      clear hxx hz hz0 hy1 hz1 hset hr hP hsn hq1 hq0 hdl hdb htb hll hd0 hbox
      rw [← HbA.out] at Hbox
      go_upto_region 48 with (fail)
      rw [← HbA.out]
      clear hbA HbA b1 b5 bl hRl e0 e1 hbw1
      revert Hbox
      generalize (v1w.alloc (.cells #[.int .i64 (p : Int), .int .i64 y] 76)) = V
      intro Hbox
      obtain ⟨bw, cw, k2, d0, f0, m0, r0, h2⟩ := Hgo.out V Hbox.out
      obtain ⟨a0, a1, al, x1, xl⟩ := Hbc.out V _ _ _ _ Hbox.out
      have H3 := Lib.hid (h2.go (Below.refl _ _).drew)
      clear h2 Hgo Hbox
      go_wp2
      go_region
      clear k2 d0 f0 m0 r0 a0 a1 al x1 xl
      revert H3
      generalize (V.setCell ⟨bw, p, none⟩ (.int .i64 (z + y))).drew = V3
      intro H3
      obtain ⟨a0, a1, al, x1, xl⟩ := Hbc.out V3 _ _ _ _ H3.out
      have h3 := H3.out
      rw [List.cons_append] at h3
      obtain ⟨a', n', c', w', hrun, h4, hn'⟩ := RefAt.pushE (pre := []) (post := more ++ [boxRow bA 76 [.int .i64 (p : Int), .int .i64 y]]) h3 hql 70 ⟨t + dl, (p : Int), y⟩
      simp only at hrun
      have h5 := h4.sub (more' := evRow (.slice a' n' c') (q0 ++ [⟨t + dl, (p : Int), y⟩]) :: more) (by rw [List.nil_append]; exact List.Sublist.cons_cons _ (List.sublist_append_left _ _))
      rw [← Hq1.out] at h5 hn'
      have H5 := Lib.hid h5
      have Hn5 := Lib.hid hn'
      clear h3 h4 h5 hn' H3 Hbc hql
      go_wp2_with (at_builtin; refine wpList_append_eq rfl (.tmp 230) (.tmp 240) 70 rfl rfl rfl hrun ?_)
      go_roundw
      case rel => exact ⟨k + 1, a', n', c', by omega, by go_num, rfl, rfl, by have := H5.out; rw [HP.out, Hdl.out] at this; exact this, by have := Hn5.out; rw [Hdl.out] at this; exact Lib.hid this⟩
      case measure => simp [intOf]; omega
    · have hge : ¬ (k : Int) < (no : Int) := by omega
      rw [List.take_of_length_le (by rw [← Hno.out]; omega)] at hr Hnr
      have Hr := Lib.hid hr
      clear hr
      go_wp2
      exact And.intro rfl (Hex.out a nr c _ _ _ _ _ _ _ _ _ _ _ _ _ _ _ _ _ _ _ _ _ _ _ _ _ _ _ _ _ _ _ _ _ _ _ _ _ _ _ _ _ _ _ _ _ _ _ _ _ _ _ _ _ _ _ _ _ _ _ _ Hr.out Hnr.out)
end Go.Proofs.Ytpbbdnicafifpaa

/-! ## R9T -/
namespace Go.Proofs.Ytpbbdnicafifpaa
open Go.RowKit
set_option linter.unusedVariables false

noncomputable def takesBody : Code := ((Try.f26.body.map loopsR).getD []).getD 5 .skip

set_option maxRecDepth 1000000 in
set_option maxHeartbeats 8000000 in
theorem takes_loop {w0 w1 : World} {R bx : Nat} {t : Int} {lg : List (Int × Int)} {m way : List Int} {more : List Row} {ai : Option Addr} {ni ci : Nat} {li : List (Int × Int)} {v0 v1 v2 v4 v5 : Value} {c0 c1 c2 c3 c4 c5 c7 c8 c9 c10 c11 c12 c13 c14 c15 c16 c19 c20 c21 c22 c23 c24 c25 c26 c27 c28 c29 c30 c31 c32 c33 c34 c35 c36 c37 c38 c39 c40 c41 c42 c43 c44 c45 c46 c47 c48 c49 c50 c51 c52 c53 c54 c55 c56 c57 c58 c59 c60 c61 c62 c63 c64 c65 c66 c67 c68 c69 c70 c71 c72 c73 c74 c75 c76 c77 c78 c79 c80 c81 c82 c83 c84 c85 c86 c87 c88 c89 c90 c91 c92 c93 c94 c95 c96 c97 c98 c99 c100 c101 c102 c103 c104 c105 c106 c107 c108 c109 c110 c111 c112 c113 c114 c115 c116 c117 c118 c119 c120 c121 c122 c123 c124 c125 c126 c127 c128 c129 c130 c131 c132 c133 c134 c135 c136 c137 c138 c139 c140 c141 c142 c143 c144 c145 c146 c147 c148 c149 c150 c151 c152 c153 c154 c155 c156 c157 c158 c159 c160 c161 c162 c163 c164 c165 c166 c167 c168 c169 c170 c171 c172 c173 c174 c175 c176 c177 c178 c179 c180 c181 c182 c183 c184 c185 c186 c187 c188 c189 c190 c191 c192 c193 c194 c195 c196 c197 c198 c199 c200 c201 c202 c203 c204 c205 c206 c207 c208 c209 c210 c211 c212 c213 c214 c215 c216 c217 c218 c219 c220 c221 c222 c223 c224 c225 c226 c227 c228 c229 c230 c231 c232 c233 c234 c235 c236 c237 c238 c239 c240 c241 c242 c243 c244 c245 c246 c247 c248 c249 c250 c251 c252 c253 c254 c255 c256 c257 c258 c259 c260 c261 c262 c263 c264 c265 c266 c267 c268 c269 : Value} {Nx Mx : Act → World → Prop}
    (hni : ni = li.length) (hA : ArcsAt w0 (.slice ai ni ci) li) (hF : Fits m.length li) (hway : 0 < m.length → 0 < way.length) (hbx : boxRow bx 79 [v0, v1, v2, .slice ai ni ci, v4, v5] ∈ more) (hR : RefAt w0 w1 R t lg m way more)
    (hexit : ∀  (u18 u160 u161 u162 u163 u164 u165 u166 u167 u168 u169 u170 u171 u172 u173 u174 u175 u176 u177 u178 u179 u180 u181 u182 u183 u184 : Value) (W' : World), RefAt w0 W' R t lg (takeL li m) way more → Nx ⟨(c0 :: c1 :: c2 :: c3 :: c4 :: c5 :: (.pointer (some ⟨R, 0, none⟩)) :: c7 :: c8 :: c9 :: c10 :: c11 :: c12 :: c13 :: c14 :: c15 :: c16 :: (.pointer (some ⟨bx, 0, none⟩)) :: u18 :: c19 :: c20 :: c21 :: c22 :: c23 :: c24 :: c25 :: c26 :: c27 :: c28 :: c29 :: c30 :: c31 :: c32 :: c33 :: c34 :: c35 :: c36 :: c37 :: c38 :: c39 :: c40 :: c41 :: c42 :: c43 :: c44 :: c45 :: c46 :: c47 :: c48 :: c49 :: c50 :: c51 :: c52 :: c53 :: c54 :: c55 :: c56 :: c57 :: c58 :: c59 :: c60 :: c61 :: c62 :: c63 :: c64 :: c65 :: c66 :: c67 :: c68 :: c69 :: c70 :: c71 :: c72 :: c73 :: c74 :: c75 :: c76 :: c77 :: c78 :: c79 :: c80 :: c81 :: c82 :: c83 :: c84 :: c85 :: c86 :: c87 :: c88 :: c89 :: c90 :: c91 :: c92 :: c93 :: c94 :: c95 :: c96 :: c97 :: c98 :: c99 :: c100 :: c101 :: c102 :: c103 :: c104 :: c105 :: c106 :: c107 :: c108 :: c109 :: c110 :: c111 :: c112 :: c113 :: c114 :: c115 :: c116 :: c117 :: c118 :: c119 :: c120 :: c121 :: c122 :: c123 :: c124 :: c125 :: c126 :: c127 :: c128 :: c129 :: c130 :: c131 :: c132 :: c133 :: c134 :: c135 :: c136 :: c137 :: c138 :: c139 :: c140 :: c141 :: c142 :: c143 :: c144 :: c145 :: c146 :: c147 :: c148 :: c149 :: c150 :: c151 :: c152 :: c153 :: c154 :: c155 :: c156 :: c157 :: c158 :: c159 :: u160 :: u161 :: u162 :: u163 :: u164 :: u165 :: u166 :: u167 :: u168 :: u169 :: u170 :: u171 :: u172 :: u173 :: u174 :: u175 :: u176 :: u177 :: u178 :: u179 :: u180 :: u181 :: u182 :: u183 :: u184 :: c185 :: c186 :: c187 :: c188 :: c189 :: c190 :: c191 :: c192 :: c193 :: c194 :: c195 :: c196 :: c197 :: c198 :: c199 :: c200 :: c201 :: c202 :: c203 :: c204 :: c205 :: c206 :: c207 :: c208 :: c209 :: c210 :: c211 :: c212 :: c213 :: c214 :: c215 :: c216 :: c217 :: c218 :: c219 :: c220 :: c221 :: c222 :: c223 :: c224 :: c225 :: c226 :: c227 :: c228 :: c229 :: c230 :: c231 :: c232 :: c233 :: c234 :: c235 :: c236 :: c237 :: c238 :: c239 :: c240 :: c241 :: c242 :: c243 :: c244 :: c245 :: c246 :: c247 :: c248 :: c249 :: c250 :: c251 :: c252 :: c253 :: c254 :: c255 :: c256 :: c257 :: c258 :: c259 :: c260 :: c261 :: c262 :: c263 :: c264 :: c265 :: c266 :: c267 :: c268 :: c269 :: []).toArray, []⟩ W')
    : Code.wp Try.prog (Code.loop takesBody) (outPost 10 Nx Mx) ⟨(c0 :: c1 :: c2 :: c3 :: c4 :: c5 :: (.pointer (some ⟨R, 0, none⟩)) :: c7 :: c8 :: c9 :: c10 :: c11 :: c12 :: c13 :: c14 :: c15 :: c16 :: (.pointer (some ⟨bx, 0, none⟩)) :: (.int .i64 0) :: c19 :: c20 :: c21 :: c22 :: c23 :: c24 :: c25 :: c26 :: c27 :: c28 :: c29 :: c30 :: c31 :: c32 :: c33 :: c34 :: c35 :: c36 :: c37 :: c38 :: c39 :: c40 :: c41 :: c42 :: c43 :: c44 :: c45 :: c46 :: c47 :: c48 :: c49 :: c50 :: c51 :: c52 :: c53 :: c54 :: c55 :: c56 :: c57 :: c58 :: c59 :: c60 :: c61 :: c62 :: c63 :: c64 :: c65 :: c66 :: c67 :: c68 :: c69 :: c70 :: c71 :: c72 :: c73 :: c74 :: c75 :: c76 :: c77 :: c78 :: c79 :: c80 :: c81 :: c82 :: c83 :: c84 :: c85 :: c86 :: c87 :: c88 :: c89 :: c90 :: c91 :: c92 :: c93 :: c94 :: c95 :: c96 :: c97 :: c98 :: c99 :: c100 :: c101 :: c102 :: c103 :: c104 :: c105 :: c106 :: c107 :: c108 :: c109 :: c110 :: c111 :: c112 :: c113 :: c114 :: c115 :: c116 :: c117 :: c118 :: c119 :: c120 :: c121 :: c122 :: c123 :: c124 :: c125 :: c126 :: c127 :: c128 :: c129 :: c130 :: c131 :: c132 :: c133 :: c134 :: c135 :: c136 :: c137 :: c138 :: c139 :: c140 :: c141 :: c142 :: c143 :: c144 :: c145 :: c146 :: c147 :: c148 :: c149 :: c150 :: c151 :: c152 :: c153 :: c154 :: c155 :: c156 :: c157 :: c158 :: c159 :: c160 :: c161 :: c162 :: c163 :: c164 :: c165 :: c166 :: c167 :: c168 :: c169 :: c170 :: c171 :: c172 :: c173 :: c174 :: c175 :: c176 :: c177 :: c178 :: c179 :: c180 :: c181 :: c182 :: c183 :: c184 :: c185 :: c186 :: c187 :: c188 :: c189 :: c190 :: c191 :: c192 :: c193 :: c194 :: c195 :: c196 :: c197 :: c198 :: c199 :: c200 :: c201 :: c202 :: c203 :: c204 :: c205 :: c206 :: c207 :: c208 :: c209 :: c210 :: c211 :: c212 :: c213 :: c214 :: c215 :: c216 :: c217 :: c218 :: c219 :: c220 :: c221 :: c222 :: c223 :: c224 :: c225 :: c226 :: c227 :: c228 :: c229 :: c230 :: c231 :: c232 :: c233 :: c234 :: c235 :: c236 :: c237 :: c238 :: c239 :: c240 :: c241 :: c242 :: c243 :: c244 :: c245 :: c246 :: c247 :: c248 :: c249 :: c250 :: c251 :: c252 :: c253 :: c254 :: c255 :: c256 :: c257 :: c258 :: c259 :: c260 :: c261 :: c262 :: c263 :: c264 :: c265 :: c266 :: c267 :: c268 :: c269 :: []).toArray, []⟩ w1 := by
  conv => arg 2; arg 1; whnf
  have Hni := Lib.hid hni
  have HA := Lib.hid hA
  have HF := Lib.hid hF
  have Hbx := Lib.hid hbx
  have HR := Lib.hid hR
  have Hex := Lib.hid hexit
  have hmax : ni ≤ 9223372036854775807 := by have := RowAt.max hA; omega
  have hwl := Lib.hid hway
  clear hni hA hF hbx hR hexit hway
  go_loopw [18] (fun i wr => ∃ k : Nat, k ≤ ni ∧ i = .int .i64 k ∧ RefAt w0 wr R t lg (takeTo li m k) way more) (fun i _ => ni - (intOf i).toNat)
  case atStart => exact ⟨0, by omega, rfl, HR.out⟩
  case round =>
    rename World => v1
    obtain ⟨k, hk, rfl, hr⟩ := hrel
    have b3 : v1.cell? ⟨bx, 3, none⟩ = some (.slice ai ni ci) := boxRow.cell (hr.mem Hbx.out) rfl
    have bl : bx < v1.heap.size := (boxRow.lt (hr.mem Hbx.out)).2
    have hRl := hr.lt.2
    by_cases hlt : k < ni
    · obtain ⟨⟨x, y⟩, hx⟩ := at_lt (l := li) (k := k) (by rw [← Hni.out]; exact hlt)
      have hlti : (k : Int) < (ni : Int) := by omega
      obtain ⟨b1, off, rfl, hbw1, e0, e1⟩ := ArcsAt.at_ (RowAt.below HA.out hr.low) hx
      obtain ⟨p, rfl, hp, z, hz, hg⟩ := HF.out.at_ hx
      have hlm : (takeTo li m k).length = m.length := takeTo_len _ _ _
      obtain ⟨z, hz'⟩ := at_lt (l := takeTo li m k) (k := p) (by rw [hlm]; exact hp)
      obtain ⟨bm, cm, bw, cw, k1, -, hM, -, n1, -, -, tM, -, -, -⟩ := hr.both (by rw [hlm]; omega) (by have := hwl.out; omega)
      rw [hlm] at k1
      have d0 := hM.cell hz'
      have g0 := hM.froz p
      have m0 := hM.lt.2
      have hnext : takeTo li m (k + 1) = (takeTo li m k).set p (wrap64 (z - y)) := by
        rw [takeTo_succ hx]; unfold stepT getI
        simp [List.getD, hz']
      have h2 := tM v1 (Below.refl _ _) p (wrap64 (z - y)) (by rw [hlm]; exact hp)
      rw [← hnext] at h2
      have H2 := Lib.hid h2
      obtain ⟨P, hP⟩ : ∃ P, P = m.length := ⟨_, rfl⟩
      rw [← hP] at k1 hp
      have hpi : (p : Int) < (P : Int) := by omega
      clear hx hz hg hlm hz' hM tM hnext h2 hr hP
      go_wp2
      go_region
      go_wp2
      go_roundw
      case rel => exact ⟨k + 1, by omega, by go_num, H2.out.go (by first | exact (Below.refl _ _).drew | exact Below.refl _ _)⟩
      case measure => simp [intOf]; omega
    · have hge : ¬ (k : Int) < (ni : Int) := by omega
      rw [takeTo_all (by rw [← Hni.out]; omega)] at hr
      have Hr := Lib.hid hr
      clear hr
      go_wp2
      exact And.intro rfl (Hex.out _ _ _ _ _ _ _ _ _ _ _ _ _ _ _ _ _ _ _ _ _ _ _ _ _ _ _ Hr.out)
end Go.Proofs.Ytpbbdnicafifpaa

/-! ## R9W -/
namespace Go.Proofs.Ytpbbdnicafifpaa
open Go.RowKit
set_option linter.unusedVariables false

theorem due_late {t : Int} {x : Ev} {b : Bool} (h : late t x = b) : due t x = !b := by rw [← h, late_not, Bool.not_not]

noncomputable def waitBody : Code := ((Try.f26.body.map loopsR).getD []).getD 2 .skip

set_option maxRecDepth 1000000 in
set_option maxHeartbeats 8000000 in
theorem wait_loop {w0 w1 : World} {R : Nat} {n : Nt} {t : Int} {s : St} {lg : List (Int × Int)} {aq : Option Addr} {nq cq : Nat} {c0 c1 c2 c3 c4 c5 c7 c10 c13 c14 c15 c16 c17 c18 c19 c20 c21 c22 c23 c24 c25 c26 c27 c28 c29 c30 c31 c32 c33 c34 c35 c36 c37 c38 c39 c40 c41 c42 c43 c44 c45 c46 c47 c48 c49 c50 c51 c52 c53 c54 c55 c56 c57 c58 c59 c60 c61 c62 c63 c64 c65 c66 c67 c68 c69 c70 c71 c72 c73 c74 c75 c76 c77 c78 c79 c80 c81 c82 c83 c84 c85 c86 c87 c88 c89 c90 c91 c92 c93 c94 c95 c96 c97 c98 c99 c100 c101 c102 c103 c104 c105 c106 c107 c108 c109 c110 c111 c112 c113 c114 c115 c116 c117 c118 c119 c120 c121 c122 c123 c124 c125 c126 c127 c128 c129 c130 c131 c132 c133 c134 c135 c136 c137 c138 c139 c140 c141 c142 c143 c144 c145 c146 c147 c148 c149 c150 c151 c152 c153 c154 c155 c156 c157 c158 c159 c160 c161 c162 c163 c164 c165 c166 c167 c168 c169 c170 c171 c172 c173 c174 c175 c176 c177 c178 c179 c180 c181 c182 c183 c184 c185 c186 c187 c188 c189 c190 c191 c192 c193 c194 c195 c196 c197 c198 c199 c200 c201 c202 c203 c204 c205 c206 c207 c208 c209 c210 c211 c212 c213 c214 c215 c216 c217 c218 c219 c220 c221 c222 c223 c224 c225 c226 c227 c228 c229 c230 c231 c232 c233 c234 c235 c236 c237 c238 c239 c240 c241 c242 c243 c244 c245 c246 c247 c248 c249 c250 c251 c252 c253 c254 c255 c256 c257 c258 c259 c260 c261 c262 c263 c264 c265 c266 c267 c268 c269 : Value} {Nx Mx : Act → World → Prop}
    (hnq : nq = s.q.length) (hI : Inv n t s) (hge : ∀ e ∈ s.q, t ≤ e.time) (hR : RefAt w0 w1 R t lg s.m (wayL s.m.length s.q) [evRow (.slice aq nq cq) s.q])
    (hexit : ∀ (a : Option Addr) (nf c : Nat) (u12 u13 u51 u52 u53 u54 u55 u56 u57 u58 u59 u60 u61 u62 u63 u64 u65 u66 u67 u68 u69 u70 u71 u72 u73 u74 u75 u76 u77 u78 u79 u80 u81 u82 u83 u84 u85 u86 u87 u88 : Value) (W' : World), RefAt w0 W' R t lg (arrM t s.q s.m) (wayL s.m.length (s.q.filter (late t))) [evRow (.slice aq nq cq) s.q, evRow (.slice a nf c) (s.q.filter (late t))] → nf = (s.q.filter (late t)).length → Nx ⟨(c0 :: c1 :: c2 :: c3 :: c4 :: c5 :: (.pointer (some ⟨R, 0, none⟩)) :: c7 :: (.slice aq nq cq) :: (.int .i64 t) :: c10 :: (.slice a nf c) :: u12 :: u13 :: c14 :: c15 :: c16 :: c17 :: c18 :: c19 :: c20 :: c21 :: c22 :: c23 :: c24 :: c25 :: c26 :: c27 :: c28 :: c29 :: c30 :: c31 :: c32 :: c33 :: c34 :: c35 :: c36 :: c37 :: c38 :: c39 :: c40 :: c41 :: c42 :: c43 :: c44 :: c45 :: c46 :: c47 :: c48 :: c49 :: c50 :: u51 :: u52 :: u53 :: u54 :: u55 :: u56 :: u57 :: u58 :: u59 :: u60 :: u61 :: u62 :: u63 :: u64 :: u65 :: u66 :: u67 :: u68 :: u69 :: u70 :: u71 :: u72 :: u73 :: u74 :: u75 :: u76 :: u77 :: u78 :: u79 :: u80 :: u81 :: u82 :: u83 :: u84 :: u85 :: u86 :: u87 :: u88 :: c89 :: c90 :: c91 :: c92 :: c93 :: c94 :: c95 :: c96 :: c97 :: c98 :: c99 :: c100 :: c101 :: c102 :: c103 :: c104 :: c105 :: c106 :: c107 :: c108 :: c109 :: c110 :: c111 :: c112 :: c113 :: c114 :: c115 :: c116 :: c117 :: c118 :: c119 :: c120 :: c121 :: c122 :: c123 :: c124 :: c125 :: c126 :: c127 :: c128 :: c129 :: c130 :: c131 :: c132 :: c133 :: c134 :: c135 :: c136 :: c137 :: c138 :: c139 :: c140 :: c141 :: c142 :: c143 :: c144 :: c145 :: c146 :: c147 :: c148 :: c149 :: c150 :: c151 :: c152 :: c153 :: c154 :: c155 :: c156 :: c157 :: c158 :: c159 :: c160 :: c161 :: c162 :: c163 :: c164 :: c165 :: c166 :: c167 :: c168 :: c169 :: c170 :: c171 :: c172 :: c173 :: c174 :: c175 :: c176 :: c177 :: c178 :: c179 :: c180 :: c181 :: c182 :: c183 :: c184 :: c185 :: c186 :: c187 :: c188 :: c189 :: c190 :: c191 :: c192 :: c193 :: c194 :: c195 :: c196 :: c197 :: c198 :: c199 :: c200 :: c201 :: c202 :: c203 :: c204 :: c205 :: c206 :: c207 :: c208 :: c209 :: c210 :: c211 :: c212 :: c213 :: c214 :: c215 :: c216 :: c217 :: c218 :: c219 :: c220 :: c221 :: c222 :: c223 :: c224 :: c225 :: c226 :: c227 :: c228 :: c229 :: c230 :: c231 :: c232 :: c233 :: c234 :: c235 :: c236 :: c237 :: c238 :: c239 :: c240 :: c241 :: c242 :: c243 :: c244 :: c245 :: c246 :: c247 :: c248 :: c249 :: c250 :: c251 :: c252 :: c253 :: c254 :: c255 :: c256 :: c257 :: c258 :: c259 :: c260 :: c261 :: c262 :: c263 :: c264 :: c265 :: c266 :: c267 :: c268 :: c269 :: []).toArray, []⟩ W')
    : Code.wp Try.prog (Code.loop waitBody) (outPost 4 Nx Mx) ⟨(c0 :: c1 :: c2 :: c3 :: c4 :: c5 :: (.pointer (some ⟨R, 0, none⟩)) :: c7 :: (.slice aq nq cq) :: (.int .i64 t) :: c10 :: (.slice none 0 0) :: (.int .i64 0) :: c13 :: c14 :: c15 :: c16 :: c17 :: c18 :: c19 :: c20 :: c21 :: c22 :: c23 :: c24 :: c25 :: c26 :: c27 :: c28 :: c29 :: c30 :: c31 :: c32 :: c33 :: c34 :: c35 :: c36 :: c37 :: c38 :: c39 :: c40 :: c41 :: c42 :: c43 :: c44 :: c45 :: c46 :: c47 :: c48 :: c49 :: c50 :: c51 :: c52 :: c53 :: c54 :: c55 :: c56 :: c57 :: c58 :: c59 :: c60 :: c61 :: c62 :: c63 :: c64 :: c65 :: c66 :: c67 :: c68 :: c69 :: c70 :: c71 :: c72 :: c73 :: c74 :: c75 :: c76 :: c77 :: c78 :: c79 :: c80 :: c81 :: c82 :: c83 :: c84 :: c85 :: c86 :: c87 :: c88 :: c89 :: c90 :: c91 :: c92 :: c93 :: c94 :: c95 :: c96 :: c97 :: c98 :: c99 :: c100 :: c101 :: c102 :: c103 :: c104 :: c105 :: c106 :: c107 :: c108 :: c109 :: c110 :: c111 :: c112 :: c113 :: c114 :: c115 :: c116 :: c117 :: c118 :: c119 :: c120 :: c121 :: c122 :: c123 :: c124 :: c125 :: c126 :: c127 :: c128 :: c129 :: c130 :: c131 :: c132 :: c133 :: c134 :: c135 :: c136 :: c137 :: c138 :: c139 :: c140 :: c141 :: c142 :: c143 :: c144 :: c145 :: c146 :: c147 :: c148 :: c149 :: c150 :: c151 :: c152 :: c153 :: c154 :: c155 :: c156 :: c157 :: c158 :: c159 :: c160 :: c161 :: c162 :: c163 :: c164 :: c165 :: c166 :: c167 :: c168 :: c169 :: c170 :: c171 :: c172 :: c173 :: c174 :: c175 :: c176 :: c177 :: c178 :: c179 :: c180 :: c181 :: c182 :: c183 :: c184 :: c185 :: c186 :: c187 :: c188 :: c189 :: c190 :: c191 :: c192 :: c193 :: c194 :: c195 :: c196 :: c197 :: c198 :: c199 :: c200 :: c201 :: c202 :: c203 :: c204 :: c205 :: c206 :: c207 :: c208 :: c209 :: c210 :: c211 :: c212 :: c213 :: c214 :: c215 :: c216 :: c217 :: c218 :: c219 :: c220 :: c221 :: c222 :: c223 :: c224 :: c225 :: c226 :: c227 :: c228 :: c229 :: c230 :: c231 :: c232 :: c233 :: c234 :: c235 :: c236 :: c237 :: c238 :: c239 :: c240 :: c241 :: c242 :: c243 :: c244 :: c245 :: c246 :: c247 :: c248 :: c249 :: c250 :: c251 :: c252 :: c253 :: c254 :: c255 :: c256 :: c257 :: c258 :: c259 :: c260 :: c261 :: c262 :: c263 :: c264 :: c265 :: c266 :: c267 :: c268 :: c269 :: []).toArray, []⟩ w1 := by
  conv => arg 2; arg 1; whnf
  have Hnq := Lib.hid hnq
  have HI := Lib.hid hI
  have Hge := Lib.hid hge
  have HR := Lib.hid hR
  have Hex := Lib.hid hexit
  have hql : nq ≤ 1000000 := by have := hI.ql; have := hI.ll; omega
  clear hnq hI hge hR hexit
  go_loopw [11, 12] (fun f i wr => ∃ (k : Nat) (a : Option Addr) (nf c : Nat), k ≤ nq ∧ i = .int .i64 k ∧ f = .slice a nf c ∧ RefAt w0 wr R t lg (arrM t (s.q.take k) s.m) (wayL s.m.length (leftTo t s.q k)) [evRow (.slice aq nq cq) s.q, evRow (.slice a nf c) ((s.q.take k).filter (late t))] ∧ Hid (nf = ((s.q.take k).filter (late t)).length)) (fun _ i _ => nq - (intOf i).toNat)
  case atStart => exact ⟨0, none, 0, 0, by omega, rfl, rfl, by rw [leftTo_zero]; exact HR.out.add (Below.refl _ _) (r := evRow (.slice none 0 0) []) (ownNil _ _ _ _) (fun k e => by cases e), Lib.hid rfl⟩
  case round =>
    rename World => v1
    obtain ⟨k, a, nf, c, hk, rfl, rfl, hr, Hnf⟩ := hrel
    have hEv := hr.evs (a := aq) (nq := nq) (c := cq) (q := s.q) (by simp)
    have hlt0 := hr.lt
    by_cases hlt : k < nq
    · obtain ⟨x, hx⟩ := at_lt (l := s.q) (k := k) (by rw [← Hnq.out]; exact hlt)
      have hlti : (k : Int) < (nq : Int) := by omega
      obtain ⟨g, off, rfl, hgw, e0, e1, e2⟩ := hEv.at_ hx
      have hxt := late_ne (Hge.out x (List.mem_of_getElem? hx))
      cases hla : late t x with
      | true =>
        rw [hla] at hxt
        have hne : x.time ≠ t := by simpa using hxt.symm
        have hneb : (x.time != t) = true := by simpa using hne
        have hneb2 : (x.time == t) = false := by simpa using hne
        have hst := leftTo_stay (k := k) hx hla
        have hlf := late_next hx hla
        have hsk : arrM t (s.q.take (k + 1)) s.m = arrM t (s.q.take k) s.m := arrive_skip hx (due_late hla)
        have hbx := hr.go ((Below.refl _ _).alloc (Nat.le_refl _) (.cells #[.int .i64 x.time, .int .i64 x.place, .int .i64 x.n] 74))
        obtain ⟨a', n', c', w', hrun, hr2, hn'⟩ := RefAt.pushE (pre := [evRow (.slice (some ⟨g, off, none⟩) nq cq) s.q]) (post := []) hbx (by have := late_len t s.q k; omega) 70 x
        rw [← hlf] at hr2 hn'
        rw [← hst, ← hsk] at hr2
        have HR2 := Lib.hid hr2
        have Hn2 := Lib.hid hn'
        obtain ⟨xt, xp, xn⟩ := x
        simp only at e0 e1 e2 hrun hneb hneb2 hbx
        rw [show (v1.alloc (.cells #[.int .i64 xt, .int .i64 xp, .int .i64 xn] 74)).heap.size = v1.heap.size + 1 by simp] at hrun
        clear hx hxt hne hst hlf hsk hbx hr hr2 hn' hEv hla
        go_wp2_with (at_builtin; refine wpList_append_eq rfl (.tmp 65) (.tmp 67) 70 rfl rfl rfl hrun ?_)
        go_roundw
        case rel => exact ⟨k + 1, a', n', c', by omega, by go_num, rfl, HR2.out, Hn2⟩
        case measure => simp [intOf]; omega
      | false =>
        rw [hla] at hxt
        have heq : x.time = t := by simpa using hxt.symm
        have hdue : due t x = true := due_late hla
        obtain ⟨p, hp0, hpl, zw, hzw, hw0, hw1, hn1, hn2, hwset⟩ := left_next HI.out hx hla
        obtain ⟨p2, hp2, _, zm, hzm, hm0, hm1, hmset, _⟩ := arrive_next HI.out hx hdue
        obtain rfl : p2 = p := by omega
        have hlf := late_skip hx hla
        obtain ⟨xt, xp, xn⟩ := x
        simp only at e0 e1 e2 heq hp0 hn1 hn2 hwset hm1 hmset
        subst heq hp0
        have hlw : (wayL s.m.length (leftTo xt s.q k)).length = s.m.length := wayL_size _ _
        have hlm : (arrM xt (s.q.take k) s.m).length = s.m.length := foldE_len _ _
        have heqb : (xt != xt) = false := by simp
        have heqb2 : (xt == xt) = true := by simp
        have Hnf2 : Hid (nf = ((s.q.take (k + 1)).filter (late xt)).length) := Lib.hid (by rw [hlf]; exact Hnf.out)
        obtain ⟨bm, cm, bw, cw, k1, k2, hM, hW, n1, n2, n3, -, -, tB, -⟩ := hr.both (by rw [hlm]; omega) (by rw [hlw]; omega)
        have c0 := hW.cell hzw
        have f0 := hW.froz p2
        have l0 := hW.lt.2
        have d0 := hM.cell hzm
        have g0 := hM.froz p2
        have m0 := hM.lt.2
        have hr4 := tB v1 (Below.refl _ _) p2 (zw - xn) p2 (zm + xn) (by rw [hlm]; exact hpl) (by rw [hlw]; exact hpl)
        rw [← hwset, ← hmset, ← hlf] at hr4
        have HR4 := Lib.hid hr4
        rw [hlm] at k1
        rw [hlw] at k2
        have n1' : bm ≠ R := fun e => n1 e.symm
        have n2' : bw ≠ R := fun e => n2 e.symm
        have n3' : bw ≠ bm := fun e => n3 e.symm
        obtain ⟨P, hP⟩ : ∃ P, P = s.m.length := ⟨_, rfl⟩
        rw [← hP] at k1 k2 hpl
        have hpi : (p2 : Int) < (P : Int) := by omega
        have w1b : IntKind.i64.wrap (zw - xn) = zw - xn := IntWalk.i64_in _ (by omega)
        have w2b : IntKind.i64.wrap (zm + xn) = zm + xn := IntWalk.i64_in _ (by omega)
        obtain ⟨hR0, hR1⟩ := hlt0
        clear hx hxt hla hdue hp2 hlf hr hEv hlw hlm hM hW tB hr4 hzw hzm hwset hmset hw0 hw1 hn1 hn2 hm0 hm1 hP
        go_upto_region 19 with (fail)
        have x1 : (v1.alloc (.cells #[.int .i64 xt, .int .i64 (p2 : Int), .int .i64 xn] 74)).cell? ⟨v1.heap.size, 1, none⟩ = some (.int .i64 (p2 : Int)) := by go_simp
        have x2 : (v1.alloc (.cells #[.int .i64 xt, .int .i64 (p2 : Int), .int .i64 xn] 74)).cell? ⟨v1.heap.size, 2, none⟩ = some (.int .i64 xn) := by go_simp
        have l0' : bw < v1.heap.size + 1 := by omega
        have m0' : bm < v1.heap.size + 1 := by omega
        have e1' : ¬ bw = v1.heap.size := by omega
        have e2' : ¬ bm = v1.heap.size := by omega
        have e3' : ¬ v1.heap.size = bw := by omega
        have e4' : ¬ v1.heap.size = bm := by omega
        have e5' : ¬ R = v1.heap.size := by omega
        clear e0 e1 e2
        have y1 : ((v1.setCell ⟨bw, p2, none⟩ (.int .i64 (zw - xn))).alloc (.cells #[.int .i64 xt, .int .i64 (p2 : Int), .int .i64 xn] 74)).cell? ⟨v1.heap.size, 1, none⟩ = some (.int .i64 (p2 : Int)) := by
          have e := cell_of_row _ ((v1.setCell ⟨bw, p2, none⟩ (.int .i64 (zw - xn)))).heap.size 1 _ _ (0, 0) (heap_alloc_new ((v1.setCell ⟨bw, p2, none⟩ (.int .i64 (zw - xn)))) (.cells #[.int .i64 xt, .int .i64 (p2 : Int), .int .i64 xn] 74))
          first | exact e | (rw [World.size_setCell] at e; exact e) | (rw [World.size_setCell, World.size_setCell] at e; exact e)
        have y2 : ((v1.setCell ⟨bw, p2, none⟩ (.int .i64 (zw - xn))).alloc (.cells #[.int .i64 xt, .int .i64 (p2 : Int), .int .i64 xn] 74)).cell? ⟨v1.heap.size, 2, none⟩ = some (.int .i64 xn) := by
          have e := cell_of_row _ ((v1.setCell ⟨bw, p2, none⟩ (.int .i64 (zw - xn)))).heap.size 2 _ _ (0, 0) (heap_alloc_new ((v1.setCell ⟨bw, p2, none⟩ (.int .i64 (zw - xn)))) (.cells #[.int .i64 xt, .int .i64 (p2 : Int), .int .i64 xn] 74))
          first | exact e | (rw [World.size_setCell] at e; exact e) | (rw [World.size_setCell, World.size_setCell] at e; exact e)
        have z1 : (((v1.setCell ⟨bw, p2, none⟩ (.int .i64 (zw - xn))).setCell ⟨bm, p2, none⟩ (.int .i64 (zm + xn))).alloc (.cells #[.int .i64 xt, .int .i64 (p2 : Int), .int .i64 xn] 74)).cell? ⟨v1.heap.size, 1, none⟩ = some (.int .i64 (p2 : Int)) := by
          have e := cell_of_row _ (((v1.setCell ⟨bw, p2, none⟩ (.int .i64 (zw - xn))).setCell ⟨bm, p2, none⟩ (.int .i64 (zm + xn)))).heap.size 1 _ _ (0, 0) (heap_alloc_new (((v1.setCell ⟨bw, p2, none⟩ (.int .i64 (zw - xn))).setCell ⟨bm, p2, none⟩ (.int .i64 (zm + xn)))) (.cells #[.int .i64 xt, .int .i64 (p2 : Int), .int .i64 xn] 74))
          first | exact e | (rw [World.size_setCell] at e; exact e) | (rw [World.size_setCell, World.size_setCell] at e; exact e)
        have z2 : (((v1.setCell ⟨bw, p2, none⟩ (.int .i64 (zw - xn))).setCell ⟨bm, p2, none⟩ (.int .i64 (zm + xn))).alloc (.cells #[.int .i64 xt, .int .i64 (p2 : Int), .int .i64 xn] 74)).cell? ⟨v1.heap.size, 2, none⟩ = some (.int .i64 xn) := by
          have e := cell_of_row _ (((v1.setCell ⟨bw, p2, none⟩ (.int .i64 (zw - xn))).setCell ⟨bm, p2, none⟩ (.int .i64 (zm + xn)))).heap.size 2 _ _ (0, 0) (heap_alloc_new (((v1.setCell ⟨bw, p2, none⟩ (.int .i64 (zw - xn))).setCell ⟨bm, p2, none⟩ (.int .i64 (zm + xn)))) (.cells #[.int .i64 xt, .int .i64 (p2 : Int), .int .i64 xn] 74))
          first | exact e | (rw [World.size_setCell] at e; exact e) | (rw [World.size_setCell, World.size_setCell] at e; exact e)
        refine wp_region_held_drew (S := (fun w' : World => w'.cell? ⟨R, 2, none⟩ = some (.slice (some ⟨bw, 0, none⟩) P cw) ∧ w'.cell? ⟨v1.heap.size, 1, none⟩ = some (.int .i64 (p2 : Int)) ∧ w'.cell? ⟨v1.heap.size, 2, none⟩ = some (.int .i64 xn))) (by kernel_rfl) ⟨by go_simp, x1, x2⟩ (fun hHeld => ?_)
        refine wpAnyH_take (i := 0) (oi := { dst := some 69, op := Op.fieldAddr 51 (Operand.tmp 6) 2, type := 0, pos := "ref.go:31", after := #[], guard := none }) (v := ?_) rfl (by kernel_rfl) (by kernel_rfl) (by kernel_rfl) (fun _ _ _ h => h) (Or.inl ⟨by rfl, ?hy1⟩) (by assumption) ?rest1
        case hy1 =>
          intro w hSw
          try dsimp only at hSw
          go_simp
          all_goals with_reducible rfl
        try simp only [Act.put, List.setIfInBounds_toArray, List.set_cons_zero, List.set_cons_succ]
        refine wpAnyH_take (i := 1) (oi := { dst := some 70, op := Op.load 39 (Operand.tmp 69), type := 39, pos := "ref.go:31", after := #[{ on := 0, ground := Ground.data }], guard := none }) (v := ?_) rfl (by kernel_rfl) (by kernel_rfl) (by kernel_rfl) (fun _ _ _ h => h) (Or.inl ⟨by rfl, ?hy2⟩) (by assumption) ?rest2
        case hy2 =>
          intro w hSw
          try dsimp only at hSw
          go_simp
          all_goals with_reducible rfl
        try simp only [Act.put, List.setIfInBounds_toArray, List.set_cons_zero, List.set_cons_succ]
        refine wpAnyH_take (i := 2) (oi := { dst := some 71, op := Op.fieldAddr 74 (Operand.tmp 13) 1, type := 0, pos := "ref.go:31", after := #[], guard := none }) (v := ?_) rfl (by kernel_rfl) (by kernel_rfl) (by kernel_rfl) (fun _ _ _ h => h) (Or.inl ⟨by rfl, ?hy3⟩) (by assumption) ?rest3
        case hy3 =>
          intro w hSw
          try dsimp only at hSw
          go_simp
          all_goals with_reducible rfl
        try simp only [Act.put, List.setIfInBounds_toArray, List.set_cons_zero, List.set_cons_succ]
        refine wpAnyH_take (i := 3) (oi := { dst := some 72, op := Op.load 3 (Operand.tmp 71), type := 3, pos := "ref.go:31", after := #[{ on := 2, ground := Ground.data }], guard := none }) (v := ?_) rfl (by kernel_rfl) (by kernel_rfl) (by kernel_rfl) (fun _ _ _ h => h) (Or.inl ⟨by rfl, ?hy4⟩) (by assumption) ?rest4
        case hy4 =>
          intro w hSw
          try dsimp only at hSw
          go_simp
          all_goals with_reducible rfl
        try simp only [Act.put, List.setIfInBounds_toArray, List.set_cons_zero, List.set_cons_succ]
        refine wpAnyH_take (i := 4) (oi := { dst := some 73, op := Op.indexAddr 39 (Operand.tmp 70) (Operand.tmp 72), type := 0, pos := "ref.go:31", after := #[{ on := 1, ground := Ground.data }, { on := 3, ground := Ground.data }], guard := none }) (v := ?_) rfl (by kernel_rfl) (by kernel_rfl) (by kernel_rfl) (fun _ _ _ h => h) (Or.inl ⟨by rfl, ?hy5⟩) (by assumption) ?rest5
        case hy5 =>
          intro w hSw
          try dsimp only at hSw
          go_simp
          all_goals with_reducible rfl
        try simp only [Act.put, List.setIfInBounds_toArray, List.set_cons_zero, List.set_cons_succ]
        refine wpAnyH_take (i := 6) (oi := { dst := some 75, op := Op.fieldAddr 74 (Operand.tmp 13) 2, type := 0, pos := "ref.go:31", after := #[], guard := none }) (v := ?_) rfl (by kernel_rfl) (by kernel_rfl) (by kernel_rfl) (fun _ _ _ h => h) (Or.inl ⟨by rfl, ?hy6⟩) (by assumption) ?rest6
        case hy6 =>
          intro w hSw
          try dsimp only at hSw
          go_simp
          all_goals with_reducible rfl
        try simp only [Act.put, List.setIfInBounds_toArray, List.set_cons_zero, List.set_cons_succ]
        refine wpAnyH_take (i := 7) (oi := { dst := some 76, op := Op.load 3 (Operand.tmp 75), type := 3, pos := "ref.go:31", after := #[{ on := 6, ground := Ground.data }], guard := none }) (v := ?_) rfl (by kernel_rfl) (by kernel_rfl) (by kernel_rfl) (fun _ _ _ h => h) (Or.inl ⟨by rfl, ?hy7⟩) (by assumption) ?rest7
        case hy7 =>
          intro w hSw
          try dsimp only at hSw
          go_simp
          all_goals with_reducible rfl
        try simp only [Act.put, List.setIfInBounds_toArray, List.set_cons_zero, List.set_cons_succ]
        refine wpAnyH_ready (rs := [5]) (by kernel_rfl) (by simp) ?_
        refine AllReadyH.cons (o := { dst := some 74, op := Op.load 3 (Operand.tmp 73), type := 3, pos := "ref.go:31", after := #[{ on := 4, ground := Ground.data }], guard := none }) rfl (fun K hK => ?step8) ?more8
        case more8 => exact AllReadyH.nil
        go_simp
        refine hK.out _ _ ?hs8 (fun hHeld => ?go8)
        case hs8 => assumption
        clear hK K
        try simp only [Act.put, List.setIfInBounds_toArray, List.set_cons_zero, List.set_cons_succ]
        refine wpAnyH_take (i := 8) (oi := { dst := some 77, op := Op.binOp BinOp.sub 3 (Operand.tmp 74) (Operand.tmp 76) 3, type := 3, pos := "ref.go:31", after := #[{ on := 5, ground := Ground.data }, { on := 7, ground := Ground.data }], guard := none }) (v := ?_) rfl (by kernel_rfl) (by kernel_rfl) (by kernel_rfl) (fun _ _ _ h => h) (Or.inl ⟨by rfl, ?hy9⟩) (by assumption) ?rest9
        case hy9 =>
          intro w hSw
          try dsimp only at hSw
          go_simp
          all_goals with_reducible rfl
        try simp only [Act.put, List.setIfInBounds_toArray, List.set_cons_zero, List.set_cons_succ]
        refine wpAnyH_take (i := 9) (oi := { dst := some 78, op := Op.indexAddr 39 (Operand.tmp 70) (Operand.tmp 72), type := 0, pos := "ref.go:31", after := #[{ on := 1, ground := Ground.data }, { on := 3, ground := Ground.data }, { on := 0, ground := Ground.phase }, { on := 1, ground := Ground.phase }, { on := 2, ground := Ground.phase }, { on := 3, ground := Ground.phase }, { on := 4, ground := Ground.phase }, { on := 5, ground := Ground.phase }, { on := 6, ground := Ground.phase }, { on := 7, ground := Ground.phase }, { on := 8, ground := Ground.phase }], guard := none }) (v := ?_) rfl (by kernel_rfl) (by kernel_rfl) (by kernel_rfl) (fun _ _ _ h => h) (Or.inl ⟨by rfl, ?hy10⟩) (by assumption) ?rest10
        case hy10 =>
          intro w hSw
          try dsimp only at hSw
          go_simp
          all_goals with_reducible rfl
        try simp only [Act.put, List.setIfInBounds_toArray, List.set_cons_zero, List.set_cons_succ]
        refine wpAnyH_ready (rs := [10]) (by kernel_rfl) (by simp) ?_
        refine AllReadyH.cons (o := { dst := none, op := Op.store 3 (Operand.tmp 78) (Operand.tmp 77), type := 0, pos := "ref.go:31", after := #[{ on := 9, ground := Ground.data }, { on := 8, ground := Ground.data }, { on := 0, ground := Ground.phase }, { on := 1, ground := Ground.phase }, { on := 2, ground := Ground.phase }, { on := 3, ground := Ground.phase }, { on := 4, ground := Ground.phase }, { on := 5, ground := Ground.phase }, { on := 6, ground := Ground.phase }, { on := 7, ground := Ground.phase }, { on := 8, ground := Ground.phase }], guard := none }) rfl (fun K hK => ?step11) ?more11
        case more11 => exact AllReadyH.nil
        go_simp
        refine hK.out _ _ ?hs11 (fun hHeld => ?go11)
        case hs11 => exact ⟨by go_simp, y1, y2⟩
        clear hK K
        try simp only [Act.put, List.setIfInBounds_toArray, List.set_cons_zero, List.set_cons_succ]
        refine wpAnyH_done (by kernel_rfl) ?_ _
        clear hHeld
        go_wp2
        refine wp_region_held_drew (S := (fun w' : World => w'.cell? ⟨R, 1, none⟩ = some (.slice (some ⟨bm, 0, none⟩) P cm) ∧ w'.cell? ⟨v1.heap.size, 1, none⟩ = some (.int .i64 (p2 : Int)) ∧ w'.cell? ⟨v1.heap.size, 2, none⟩ = some (.int .i64 xn))) (by kernel_rfl) ⟨by go_simp, y1, y2⟩ (fun hHeld => ?_)
        refine wpAnyH_take (i := 0) (oi := { dst := some 79, op := Op.fieldAddr 51 (Operand.tmp 6) 1, type := 0, pos := "ref.go:32", after := #[], guard := none }) (v := ?_) rfl (by kernel_rfl) (by kernel_rfl) (by kernel_rfl) (fun _ _ _ h => h) (Or.inl ⟨by rfl, ?hy12⟩) (by assumption) ?rest12
        case hy12 =>
          intro w hSw
          try dsimp only at hSw
          go_simp
          all_goals with_reducible rfl
        try simp only [Act.put, List.setIfInBounds_toArray, List.set_cons_zero, List.set_cons_succ]
        refine wpAnyH_take (i := 1) (oi := { dst := some 80, op := Op.load 39 (Operand.tmp 79), type := 39, pos := "ref.go:32", after := #[{ on := 0, ground := Ground.data }], guard := none }) (v := ?_) rfl (by kernel_rfl) (by kernel_rfl) (by kernel_rfl) (fun _ _ _ h => h) (Or.inl ⟨by rfl, ?hy13⟩) (by assumption) ?rest13
        case hy13 =>
          intro w hSw
          try dsimp only at hSw
          go_simp
          all_goals with_reducible rfl
        try simp only [Act.put, List.setIfInBounds_toArray, List.set_cons_zero, List.set_cons_succ]
        refine wpAnyH_take (i := 2) (oi := { dst := some 81, op := Op.fieldAddr 74 (Operand.tmp 13) 1, type := 0, pos := "ref.go:32", after := #[], guard := none }) (v := ?_) rfl (by kernel_rfl) (by kernel_rfl) (by kernel_rfl) (fun _ _ _ h => h) (Or.inl ⟨by rfl, ?hy14⟩) (by assumption) ?rest14
        case hy14 =>
          intro w hSw
          try dsimp only at hSw
          go_simp
          all_goals with_reducible rfl
        try simp only [Act.put, List.setIfInBounds_toArray, List.set_cons_zero, List.set_cons_succ]
        refine wpAnyH_take (i := 3) (oi := { dst := some 82, op := Op.load 3 (Operand.tmp 81), type := 3, pos := "ref.go:32", after := #[{ on := 2, ground := Ground.data }], guard := none }) (v := ?_) rfl (by kernel_rfl) (by kernel_rfl) (by kernel_rfl) (fun _ _ _ h => h) (Or.inl ⟨by rfl, ?hy15⟩) (by assumption) ?rest15
        case hy15 =>
          intro w hSw
          try dsimp only at hSw
          go_simp
          all_goals with_reducible rfl
        try simp only [Act.put, List.setIfInBounds_toArray, List.set_cons_zero, List.set_cons_succ]
        refine wpAnyH_take (i := 4) (oi := { dst := some 83, op := Op.indexAddr 39 (Operand.tmp 80) (Operand.tmp 82), type := 0, pos := "ref.go:32", after := #[{ on := 1, ground := Ground.data }, { on := 3, ground := Ground.data }], guard := none }) (v := ?_) rfl (by kernel_rfl) (by kernel_rfl) (by kernel_rfl) (fun _ _ _ h => h) (Or.inl ⟨by rfl, ?hy16⟩) (by assumption) ?rest16
        case hy16 =>
          intro w hSw
          try dsimp only at hSw
          go_simp
          all_goals with_reducible rfl
        try simp only [Act.put, List.setIfInBounds_toArray, List.set_cons_zero, List.set_cons_succ]
        refine wpAnyH_take (i := 6) (oi := { dst := some 85, op := Op.fieldAddr 74 (Operand.tmp 13) 2, type := 0, pos := "ref.go:32", after := #[], guard := none }) (v := ?_) rfl (by kernel_rfl) (by kernel_rfl) (by kernel_rfl) (fun _ _ _ h => h) (Or.inl ⟨by rfl, ?hy17⟩) (by assumption) ?rest17
        case hy17 =>
          intro w hSw
          try dsimp only at hSw
          go_simp
          all_goals with_reducible rfl
        try simp only [Act.put, List.setIfInBounds_toArray, List.set_cons_zero, List.set_cons_succ]
        refine wpAnyH_take (i := 7) (oi := { dst := some 86, op := Op.load 3 (Operand.tmp 85), type := 3, pos := "ref.go:32", after := #[{ on := 6, ground := Ground.data }], guard := none }) (v := ?_) rfl (by kernel_rfl) (by kernel_rfl) (by kernel_rfl) (fun _ _ _ h => h) (Or.inl ⟨by rfl, ?hy18⟩) (by assumption) ?rest18
        case hy18 =>
          intro w hSw
          try dsimp only at hSw
          go_simp
          all_goals with_reducible rfl
        try simp only [Act.put, List.setIfInBounds_toArray, List.set_cons_zero, List.set_cons_succ]
        refine wpAnyH_ready (rs := [5]) (by kernel_rfl) (by simp) ?_
        refine AllReadyH.cons (o := { dst := some 84, op := Op.load 3 (Operand.tmp 83), type := 3, pos := "ref.go:32", after := #[{ on := 4, ground := Ground.data }], guard := none }) rfl (fun K hK => ?step19) ?more19
        case more19 => exact AllReadyH.nil
        go_simp
        refine hK.out _ _ ?hs19 (fun hHeld => ?go19)
        case hs19 => assumption
        clear hK K
        try simp only [Act.put, List.setIfInBounds_toArray, List.set_cons_zero, List.set_cons_succ]
        refine wpAnyH_take (i := 8) (oi := { dst := some 87, op := Op.binOp BinOp.add 3 (Operand.tmp 84) (Operand.tmp 86) 3, type := 3, pos := "ref.go:32", after := #[{ on := 5, ground := Ground.data }, { on := 7, ground := Ground.data }], guard := none }) (v := ?_) rfl (by kernel_rfl) (by kernel_rfl) (by kernel_rfl) (fun _ _ _ h => h) (Or.inl ⟨by rfl, ?hy20⟩) (by assumption) ?rest20
        case hy20 =>
          intro w hSw
          try dsimp only at hSw
          go_simp
          all_goals with_reducible rfl
        try simp only [Act.put, List.setIfInBounds_toArray, List.set_cons_zero, List.set_cons_succ]
        refine wpAnyH_take (i := 9) (oi := { dst := some 88, op := Op.indexAddr 39 (Operand.tmp 80) (Operand.tmp 82), type := 0, pos := "ref.go:32", after := #[{ on := 1, ground := Ground.data }, { on := 3, ground := Ground.data }, { on := 0, ground := Ground.phase }, { on := 1, ground := Ground.phase }, { on := 2, ground := Ground.phase }, { on := 3, ground := Ground.phase }, { on := 4, ground := Ground.phase }, { on := 5, ground := Ground.phase }, { on := 6, ground := Ground.phase }, { on := 7, ground := Ground.phase }, { on := 8, ground := Ground.phase }], guard := none }) (v := ?_) rfl (by kernel_rfl) (by kernel_rfl) (by kernel_rfl) (fun _ _ _ h => h) (Or.inl ⟨by rfl, ?hy21⟩) (by assumption) ?rest21
        case hy21 =>
          intro w hSw
          try dsimp only at hSw
          go_simp
          all_goals with_reducible rfl
        try simp only [Act.put, List.setIfInBounds_toArray, List.set_cons_zero, List.set_cons_succ]
        refine wpAnyH_ready (rs := [10]) (by kernel_rfl) (by simp) ?_
        refine AllReadyH.cons (o := { dst := none, op := Op.store 3 (Operand.tmp 88) (Operand.tmp 87), type := 0, pos := "ref.go:32", after := #[{ on := 9, ground := Ground.data }, { on := 8, ground := Ground.data }, { on := 0, ground := Ground.phase }, { on := 1, ground := Ground.phase }, { on := 2, ground := Ground.phase }, { on := 3, ground := Ground.phase }, { on := 4, ground := Ground.phase }, { on := 5, ground := Ground.phase }, { on := 6, ground := Ground.phase }, { on := 7, ground := Ground.phase }, { on := 8, ground := Ground.phase }], guard := none }) rfl (fun K hK => ?step22) ?more22
        case more22 => exact AllReadyH.nil
        go_simp
        refine hK.out _ _ ?hs22 (fun hHeld => ?go22)
        case hs22 => exact ⟨by go_simp, z1, z2⟩
        clear hK K
        try simp only [Act.put, List.setIfInBounds_toArray, List.set_cons_zero, List.set_cons_succ]
        refine wpAnyH_done (by kernel_rfl) ?_ _
        clear hHeld
        go_wp2
        go_roundw
        case rel => exact ⟨k + 1, a, nf, c, by omega, by go_num, rfl, HR4.out.go (by first | exact ((Below.refl _ _).alloc (Nat.le_refl _) _).drew.drew | exact ((Below.refl _ _).alloc (Nat.le_refl _) _).drew), Hnf2⟩
        case measure => simp [intOf]; omega
    · have hge1 : ¬ (k : Int) < (nq : Int) := by omega
      have e1 : s.q.take k = s.q := List.take_of_length_le (by rw [← Hnq.out]; omega)
      have e2 : leftTo t s.q k = s.q.filter (late t) := by unfold leftTo; rw [e1, List.drop_of_length_le (by rw [← Hnq.out]; omega), List.append_nil]
      rw [e1] at hr Hnf
      rw [e2] at hr
      have Hr := Lib.hid hr
      clear hr hEv e1 e2
      go_wp2
      exact And.intro rfl (Hex.out a nf c _ _ _ _ _ _ _ _ _ _ _ _ _ _ _ _ _ _ _ _ _ _ _ _ _ _ _ _ _ _ _ _ _ _ _ _ _ _ _ _ _ Hr.out Hnf.out)
end Go.Proofs.Ytpbbdnicafifpaa
