/-
  The document's own run: its tokens at first.
  Conditions: none beyond the theorem's own.
-/
import Derived.Test.YtpbbdnicafifpaaR9A
namespace Go.Proofs.Ytpbbdnicafifpaa
open Go.RowKit
set_option linter.unusedVariables false

noncomputable def firstBody : Code := ((Try.f26.body.map loopsR).getD []).getD 0 .skip

set_option maxRecDepth 1000000 in
set_option maxHeartbeats 8000000 in
theorem first_loop {w0 w1 : World} {R bn : Nat} {n : Nt} {np cp : Nat} {ap : Option Addr} {vt : Value} {c0 c1 c3 c4 c5 c8 c9 c10 c11 c12 c13 c14 c15 c16 c17 c18 c19 c20 c21 c22 c23 c24 c25 c26 c27 c28 c29 c30 c31 c32 c33 c34 c35 c36 c37 c38 c39 c40 c41 c42 c43 c44 c45 c46 c47 c48 c49 c50 c51 c52 c53 c54 c55 c56 c57 c58 c59 c60 c61 c62 c63 c64 c65 c66 c67 c68 c69 c70 c71 c72 c73 c74 c75 c76 c77 c78 c79 c80 c81 c82 c83 c84 c85 c86 c87 c88 c89 c90 c91 c92 c93 c94 c95 c96 c97 c98 c99 c100 c101 c102 c103 c104 c105 c106 c107 c108 c109 c110 c111 c112 c113 c114 c115 c116 c117 c118 c119 c120 c121 c122 c123 c124 c125 c126 c127 c128 c129 c130 c131 c132 c133 c134 c135 c136 c137 c138 c139 c140 c141 c142 c143 c144 c145 c146 c147 c148 c149 c150 c151 c152 c153 c154 c155 c156 c157 c158 c159 c160 c161 c162 c163 c164 c165 c166 c167 c168 c169 c170 c171 c172 c173 c174 c175 c176 c177 c178 c179 c180 c181 c182 c183 c184 c185 c186 c187 c188 c189 c190 c191 c192 c193 c194 c195 c196 c197 c198 c199 c200 c201 c202 c203 c204 c205 c206 c207 c208 c209 c210 c211 c212 c213 c214 c215 c216 c217 c218 c219 c220 c221 c222 c223 c224 c225 c226 c227 c228 c229 c230 c231 c232 c233 c234 c235 c236 c237 c238 c239 c240 c241 c242 c243 c244 c245 c246 c247 c248 c249 c250 c251 c252 c253 c254 c255 c256 c257 c258 c259 c260 c261 c262 c263 c264 c265 c266 c267 c268 c269 : Value} {Nx Mx : Act → World → Prop}
    (hnp : np = n.places.length) (hp1 : np ≤ 1000) (hpl : PlsAt w0 (.slice ap np cp) n.places) (hb0 : w0.cell? ⟨bn, 0, none⟩ = some (.slice ap np cp)) (hbl : bn < w0.heap.size) (hR : RefAt w0 w1 R 0 [] [] [] [])
    (hexit : ∀  (u7 u23 u24 u25 u26 u27 u28 u29 u30 u31 u32 u33 u34 u35 u36 u37 u38 u39 u40 u41 u42 u43 u44 u45 : Value) (W' : World), RefAt w0 W' R 0 [] (n.places.map (·.tok)) (List.replicate np 0) [] → Nx ⟨(c0 :: c1 :: (.pointer (some ⟨bn, 0, none⟩)) :: c3 :: c4 :: c5 :: (.pointer (some ⟨R, 0, none⟩)) :: u7 :: c8 :: c9 :: c10 :: c11 :: c12 :: c13 :: c14 :: c15 :: c16 :: c17 :: c18 :: c19 :: c20 :: c21 :: c22 :: u23 :: u24 :: u25 :: u26 :: u27 :: u28 :: u29 :: u30 :: u31 :: u32 :: u33 :: u34 :: u35 :: u36 :: u37 :: u38 :: u39 :: u40 :: u41 :: u42 :: u43 :: u44 :: u45 :: c46 :: c47 :: c48 :: c49 :: c50 :: c51 :: c52 :: c53 :: c54 :: c55 :: c56 :: c57 :: c58 :: c59 :: c60 :: c61 :: c62 :: c63 :: c64 :: c65 :: c66 :: c67 :: c68 :: c69 :: c70 :: c71 :: c72 :: c73 :: c74 :: c75 :: c76 :: c77 :: c78 :: c79 :: c80 :: c81 :: c82 :: c83 :: c84 :: c85 :: c86 :: c87 :: c88 :: c89 :: c90 :: c91 :: c92 :: c93 :: c94 :: c95 :: c96 :: c97 :: c98 :: c99 :: c100 :: c101 :: c102 :: c103 :: c104 :: c105 :: c106 :: c107 :: c108 :: c109 :: c110 :: c111 :: c112 :: c113 :: c114 :: c115 :: c116 :: c117 :: c118 :: c119 :: c120 :: c121 :: c122 :: c123 :: c124 :: c125 :: c126 :: c127 :: c128 :: c129 :: c130 :: c131 :: c132 :: c133 :: c134 :: c135 :: c136 :: c137 :: c138 :: c139 :: c140 :: c141 :: c142 :: c143 :: c144 :: c145 :: c146 :: c147 :: c148 :: c149 :: c150 :: c151 :: c152 :: c153 :: c154 :: c155 :: c156 :: c157 :: c158 :: c159 :: c160 :: c161 :: c162 :: c163 :: c164 :: c165 :: c166 :: c167 :: c168 :: c169 :: c170 :: c171 :: c172 :: c173 :: c174 :: c175 :: c176 :: c177 :: c178 :: c179 :: c180 :: c181 :: c182 :: c183 :: c184 :: c185 :: c186 :: c187 :: c188 :: c189 :: c190 :: c191 :: c192 :: c193 :: c194 :: c195 :: c196 :: c197 :: c198 :: c199 :: c200 :: c201 :: c202 :: c203 :: c204 :: c205 :: c206 :: c207 :: c208 :: c209 :: c210 :: c211 :: c212 :: c213 :: c214 :: c215 :: c216 :: c217 :: c218 :: c219 :: c220 :: c221 :: c222 :: c223 :: c224 :: c225 :: c226 :: c227 :: c228 :: c229 :: c230 :: c231 :: c232 :: c233 :: c234 :: c235 :: c236 :: c237 :: c238 :: c239 :: c240 :: c241 :: c242 :: c243 :: c244 :: c245 :: c246 :: c247 :: c248 :: c249 :: c250 :: c251 :: c252 :: c253 :: c254 :: c255 :: c256 :: c257 :: c258 :: c259 :: c260 :: c261 :: c262 :: c263 :: c264 :: c265 :: c266 :: c267 :: c268 :: c269 :: []).toArray, []⟩ W')
    : Code.wp Try.prog (Code.loop firstBody) (outPost 0 Nx Mx) ⟨(c0 :: c1 :: (.pointer (some ⟨bn, 0, none⟩)) :: c3 :: c4 :: c5 :: (.pointer (some ⟨R, 0, none⟩)) :: (.int .i64 0) :: c8 :: c9 :: c10 :: c11 :: c12 :: c13 :: c14 :: c15 :: c16 :: c17 :: c18 :: c19 :: c20 :: c21 :: c22 :: c23 :: c24 :: c25 :: c26 :: c27 :: c28 :: c29 :: c30 :: c31 :: c32 :: c33 :: c34 :: c35 :: c36 :: c37 :: c38 :: c39 :: c40 :: c41 :: c42 :: c43 :: c44 :: c45 :: c46 :: c47 :: c48 :: c49 :: c50 :: c51 :: c52 :: c53 :: c54 :: c55 :: c56 :: c57 :: c58 :: c59 :: c60 :: c61 :: c62 :: c63 :: c64 :: c65 :: c66 :: c67 :: c68 :: c69 :: c70 :: c71 :: c72 :: c73 :: c74 :: c75 :: c76 :: c77 :: c78 :: c79 :: c80 :: c81 :: c82 :: c83 :: c84 :: c85 :: c86 :: c87 :: c88 :: c89 :: c90 :: c91 :: c92 :: c93 :: c94 :: c95 :: c96 :: c97 :: c98 :: c99 :: c100 :: c101 :: c102 :: c103 :: c104 :: c105 :: c106 :: c107 :: c108 :: c109 :: c110 :: c111 :: c112 :: c113 :: c114 :: c115 :: c116 :: c117 :: c118 :: c119 :: c120 :: c121 :: c122 :: c123 :: c124 :: c125 :: c126 :: c127 :: c128 :: c129 :: c130 :: c131 :: c132 :: c133 :: c134 :: c135 :: c136 :: c137 :: c138 :: c139 :: c140 :: c141 :: c142 :: c143 :: c144 :: c145 :: c146 :: c147 :: c148 :: c149 :: c150 :: c151 :: c152 :: c153 :: c154 :: c155 :: c156 :: c157 :: c158 :: c159 :: c160 :: c161 :: c162 :: c163 :: c164 :: c165 :: c166 :: c167 :: c168 :: c169 :: c170 :: c171 :: c172 :: c173 :: c174 :: c175 :: c176 :: c177 :: c178 :: c179 :: c180 :: c181 :: c182 :: c183 :: c184 :: c185 :: c186 :: c187 :: c188 :: c189 :: c190 :: c191 :: c192 :: c193 :: c194 :: c195 :: c196 :: c197 :: c198 :: c199 :: c200 :: c201 :: c202 :: c203 :: c204 :: c205 :: c206 :: c207 :: c208 :: c209 :: c210 :: c211 :: c212 :: c213 :: c214 :: c215 :: c216 :: c217 :: c218 :: c219 :: c220 :: c221 :: c222 :: c223 :: c224 :: c225 :: c226 :: c227 :: c228 :: c229 :: c230 :: c231 :: c232 :: c233 :: c234 :: c235 :: c236 :: c237 :: c238 :: c239 :: c240 :: c241 :: c242 :: c243 :: c244 :: c245 :: c246 :: c247 :: c248 :: c249 :: c250 :: c251 :: c252 :: c253 :: c254 :: c255 :: c256 :: c257 :: c258 :: c259 :: c260 :: c261 :: c262 :: c263 :: c264 :: c265 :: c266 :: c267 :: c268 :: c269 :: []).toArray, []⟩ w1 := by
  conv => arg 2; arg 1; whnf
  have Hnp := Lib.hid hnp
  have Hpl := Lib.hid hpl
  have HR := Lib.hid hR
  have Hb0 := Lib.hid hb0
  have Hex := Lib.hid hexit
  clear hnp hpl hR hexit hb0
  go_loopw [7] (fun i wr => ∃ k : Nat, k ≤ np ∧ i = .int .i64 k ∧ RefAt w0 wr R 0 [] ((n.places.take k).map (·.tok)) (List.replicate k 0) []) (fun i _ => np - (intOf i).toNat)
  case atStart => exact ⟨0, by omega, rfl, HR.out⟩
  case round =>
    rename World => v1
    obtain ⟨k, hk, rfl, hr⟩ := hrel
    have n0 := (below_cells hr.low bn 0 hbl).trans Hb0.out
    have hbl1 : bn < v1.heap.size := Nat.lt_of_lt_of_le hbl hr.low.size
    by_cases hlt : k < np
    · have hlti : (k : Int) < (np : Int) := by omega
      obtain ⟨x, hx⟩ := at_lt (l := n.places) (k := k) (by rw [← Hnp.out]; exact hlt)
      obtain ⟨g, off, rfl, hgw, e0, e1⟩ := (Hpl.out.below hr.low).at_ hx
      have hlk : ((n.places.take k).map (·.tok)).length = k := by rw [List.length_map, List.length_take]; have := Hnp.out; omega
      have hnext : (n.places.take (k + 1)).map (·.tok) = (n.places.take k).map (·.tok) ++ [x.tok] := by rw [take_at hx, List.map_append]; rfl
      have hd := hr.go (Below.refl _ _).drew
      obtain ⟨am, cm, k1, -, -⟩ := hr.toks
      obtain ⟨a', n', c', w', hrun, h2, kc, kf, kl⟩ := hd.pushM (by rw [hlk]; omega) 39 x.tok (a := am) (c := cm) k1
      rw [hlk] at k1 hrun kc
      rw [← hnext] at h2
      have H2 := Lib.hid h2
      have hRl := hr.lt.2
      clear hx hd h2 hr hnext hlk e0
      go_upto_region 5 with (fail)
      go_region_law (first | (refine step_append_eq (by rfl) (.tmp 31) (.tmp 38) 39 (by rfl) (by rfl) (by rfl) hrun ?_))
      all_goals
        clear k1 hrun kc kf kl e1 hgw n0 hbl1 hRl
        have h2 := H2.out
        obtain ⟨aw, cw, k2, -, -⟩ := h2.ways
        obtain ⟨a2', n2', c2', w2', hrun2, h3, kc2, kf2, kl2⟩ := h2.pushW (by rw [List.length_replicate]; omega) 39 0 (a := aw) (c := cw) k2
        rw [List.length_replicate] at k2 hrun2 kc2
        have hRl2 := h2.lt.2
        rw [show List.replicate k (0 : Int) ++ [0] = List.replicate (k + 1) 0 by rw [List.replicate_succ']] at h3
        have H3 := Lib.hid h3
        clear h2 h3 H2
        revert k2 hrun2 kc2 kf2 kl2 hRl2 H3
        generalize (w'.setCell ⟨R, 1, none⟩ (.slice a' n' c')) = V
        intro k2 hrun2 kc2 kf2 kl2 hRl2 H3
        go_wp2_with (at_builtin; refine wpList_append_eq rfl (.tmp 42) (.tmp 43) 39 rfl rfl rfl hrun2 ?_)
        go_roundw
        case rel => exact ⟨k + 1, by omega, by go_num, H3.out⟩
        case measure => simp [intOf]; omega
    · have hge : ¬ (k : Int) < (np : Int) := by omega
      have e : (n.places.take k) = n.places := List.take_of_length_le (by rw [← Hnp.out]; omega)
      obtain rfl : k = np := by omega
      rw [e] at hr
      have Hr := Lib.hid hr
      clear hr e
      go_wp2
      exact And.intro rfl (Hex.out _ _ _ _ _ _ _ _ _ _ _ _ _ _ _ _ _ _ _ _ _ _ _ _ _ Hr.out)
end Go.Proofs.Ytpbbdnicafifpaa
