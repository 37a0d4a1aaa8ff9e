/-
  The document's own run: from time to time.
  Conditions: none beyond the theorem's own.
-/
import Derived.Test.YtpbbdnicafifpaaR9E
import Derived.Test.YtpbbdnicafifpaaR9F
namespace Go.Proofs.Ytpbbdnicafifpaa
open Go.RowKit
set_option linter.unusedVariables false

theorem if_low {α : Type} {z h : Int} {x y : α} (h0 : 0 ≤ z) : (if 0 ≤ z ∧ z ≤ h then x else y) = if z ≤ h then x else y := by
  by_cases h1 : z ≤ h
  · rw [if_pos ⟨h0, h1⟩, if_pos h1]
  · rw [if_neg (fun e => h1 e.2), if_neg h1]

noncomputable def timesBody : Code := ((Try.f26.body.map loopsR).getD []).getD 1 .skip

set_option maxRecDepth 1000000 in
set_option maxHeartbeats 8000000 in
theorem times_loop {w0 w1 : World} {R bn B4 : Nat} {n : Nt} {h : Int} {np nt cp ct : Nat} {ap at_ : Option Addr} {c0 c3 c5 c7 c10 c11 c12 c13 c14 c15 c16 c17 c18 c19 c20 c21 c22 c23 c24 c25 c26 c27 c28 c29 c30 c31 c32 c33 c34 c35 c36 c37 c38 c39 c40 c41 c42 c43 c44 c45 c46 c47 c48 c49 c50 c51 c52 c53 c54 c55 c56 c57 c58 c59 c60 c61 c62 c63 c64 c65 c66 c67 c68 c69 c70 c71 c72 c73 c74 c75 c76 c77 c78 c79 c80 c81 c82 c83 c84 c85 c86 c87 c88 c89 c90 c91 c92 c93 c94 c95 c96 c97 c98 c99 c100 c101 c102 c103 c104 c105 c106 c107 c108 c109 c110 c111 c112 c113 c114 c115 c116 c117 c118 c119 c120 c121 c122 c123 c124 c125 c126 c127 c128 c129 c130 c131 c132 c133 c134 c135 c136 c137 c138 c139 c140 c141 c142 c143 c144 c145 c146 c147 c148 c149 c150 c151 c152 c153 c154 c155 c156 c157 c158 c159 c160 c161 c162 c163 c164 c165 c166 c167 c168 c169 c170 c171 c172 c173 c174 c175 c176 c177 c178 c179 c180 c181 c182 c183 c184 c185 c186 c187 c188 c189 c190 c191 c192 c193 c194 c195 c196 c197 c198 c199 c200 c201 c202 c203 c204 c205 c206 c207 c208 c209 c210 c211 c212 c213 c214 c215 c216 c217 c218 c219 c220 c221 c222 c223 c224 c225 c226 c227 c228 c229 c230 c231 c232 c233 c234 c235 c236 c237 c238 c239 c240 c241 c242 c243 c244 c245 c246 c247 c248 c249 c250 c251 c252 c253 c254 c255 c256 c257 c258 c259 c260 c261 c262 c263 c264 c265 c266 c267 c268 c269 : Value} {Nx Mx : Act → World → Prop}
    (hn : NOk n) (hnp : np = n.places.length) (hnt : nt = n.trans.length) (hnet : NetAt w0 (.slice ap np cp) (.slice at_ nt ct) n) (hb0 : w0.cell? ⟨bn, 0, none⟩ = some (.slice ap np cp)) (hb1 : w0.cell? ⟨bn, 1, none⟩ = some (.slice at_ nt ct)) (hbl : bn < w0.heap.size) (hB4 : B4 < w0.heap.size) (hc4 : ∀ j, j < 4 → ∃ v, w0.cell? ⟨B4, j, none⟩ = some v) (hf4 : ∀ j, w0.frozen? ⟨B4, j, none⟩ = false) (hR : RefAt w0 w1 R 0 (start n).log (start n).m (wayL np (start n).q) [evRow (.slice none 0 0) []])
    (hexit : ∀ (u : St) (tc : Int) (u5 u8 u9 u10 u11 u12 u13 u14 u15 u16 u17 u18 u19 u20 u21 u22 u46 u47 u48 u49 u50 u51 u52 u53 u54 u55 u56 u57 u58 u59 u60 u61 u62 u63 u64 u65 u66 u67 u68 u69 u70 u71 u72 u73 u74 u75 u76 u77 u78 u79 u80 u81 u82 u83 u84 u85 u86 u87 u88 u89 u90 u91 u92 u93 u94 u95 u96 u97 u98 u99 u100 u101 u102 u103 u104 u105 u106 u107 u108 u109 u110 u111 u112 u113 u114 u115 u116 u117 u118 u119 u120 u121 u122 u123 u124 u125 u126 u127 u128 u129 u130 u131 u132 u133 u134 u135 u136 u137 u138 u139 u140 u141 u142 u143 u144 u145 u146 u147 u148 u149 u150 u151 u152 u153 u154 u155 u156 u157 u158 u159 u160 u161 u162 u163 u164 u165 u166 u167 u168 u169 u170 u171 u172 u173 u174 u175 u176 u177 u178 u179 u180 u181 u182 u183 u184 u185 u186 u187 u188 u189 u190 u191 u192 u193 u194 u195 u196 u197 u198 u199 u200 u201 u202 u203 u204 u205 u206 u207 u208 u209 u210 u211 u212 u213 u214 u215 u216 u217 u218 u219 u220 u221 u222 u223 u224 u225 u226 u227 u228 u229 u230 u231 u232 u233 u234 u235 u236 u237 u238 u239 u240 u241 u242 u243 u244 u245 u246 u247 u248 u249 u250 u251 u252 u253 u254 u255 u256 u257 u258 u259 u260 u261 u262 u263 u264 u265 u266 u267 u268 : Value) (W' : World), RefAt w0 W' R tc u.log u.m (wayL np u.q) [] → runN n h = (u, tc, 0) → Nx ⟨(c0 :: (.int .i64 h) :: (.pointer (some ⟨bn, 0, none⟩)) :: c3 :: (.pointer (some ⟨B4, 0, none⟩)) :: u5 :: (.pointer (some ⟨R, 0, none⟩)) :: c7 :: u8 :: u9 :: u10 :: u11 :: u12 :: u13 :: u14 :: u15 :: u16 :: u17 :: u18 :: u19 :: u20 :: u21 :: u22 :: c23 :: c24 :: c25 :: c26 :: c27 :: c28 :: c29 :: c30 :: c31 :: c32 :: c33 :: c34 :: c35 :: c36 :: c37 :: c38 :: c39 :: c40 :: c41 :: c42 :: c43 :: c44 :: c45 :: u46 :: u47 :: u48 :: u49 :: u50 :: u51 :: u52 :: u53 :: u54 :: u55 :: u56 :: u57 :: u58 :: u59 :: u60 :: u61 :: u62 :: u63 :: u64 :: u65 :: u66 :: u67 :: u68 :: u69 :: u70 :: u71 :: u72 :: u73 :: u74 :: u75 :: u76 :: u77 :: u78 :: u79 :: u80 :: u81 :: u82 :: u83 :: u84 :: u85 :: u86 :: u87 :: u88 :: u89 :: u90 :: u91 :: u92 :: u93 :: u94 :: u95 :: u96 :: u97 :: u98 :: u99 :: u100 :: u101 :: u102 :: u103 :: u104 :: u105 :: u106 :: u107 :: u108 :: u109 :: u110 :: u111 :: u112 :: u113 :: u114 :: u115 :: u116 :: u117 :: u118 :: u119 :: u120 :: u121 :: u122 :: u123 :: u124 :: u125 :: u126 :: u127 :: u128 :: u129 :: u130 :: u131 :: u132 :: u133 :: u134 :: u135 :: u136 :: u137 :: u138 :: u139 :: u140 :: u141 :: u142 :: u143 :: u144 :: u145 :: u146 :: u147 :: u148 :: u149 :: u150 :: u151 :: u152 :: u153 :: u154 :: u155 :: u156 :: u157 :: u158 :: u159 :: u160 :: u161 :: u162 :: u163 :: u164 :: u165 :: u166 :: u167 :: u168 :: u169 :: u170 :: u171 :: u172 :: u173 :: u174 :: u175 :: u176 :: u177 :: u178 :: u179 :: u180 :: u181 :: u182 :: u183 :: u184 :: u185 :: u186 :: u187 :: u188 :: u189 :: u190 :: u191 :: u192 :: u193 :: u194 :: u195 :: u196 :: u197 :: u198 :: u199 :: u200 :: u201 :: u202 :: u203 :: u204 :: u205 :: u206 :: u207 :: u208 :: u209 :: u210 :: u211 :: u212 :: u213 :: u214 :: u215 :: u216 :: u217 :: u218 :: u219 :: u220 :: u221 :: u222 :: u223 :: u224 :: u225 :: u226 :: u227 :: u228 :: u229 :: u230 :: u231 :: u232 :: u233 :: u234 :: u235 :: u236 :: u237 :: u238 :: u239 :: u240 :: u241 :: u242 :: u243 :: u244 :: u245 :: u246 :: u247 :: u248 :: u249 :: u250 :: u251 :: u252 :: u253 :: u254 :: u255 :: u256 :: u257 :: u258 :: u259 :: u260 :: u261 :: u262 :: u263 :: u264 :: u265 :: u266 :: u267 :: u268 :: c269 :: []).toArray, []⟩ W')
    (hret : ∀ (err : Int) (u : St) (t : Int) (al : Option Addr) (ll cl : Nat) (am : Option Addr) (cm : Nat) (aw : Option Addr) (cw : Nat) (u8 u9 u10 u11 u12 u13 u14 u15 u16 u17 u18 u19 u20 u21 u22 u46 u47 u48 u49 u50 u51 u52 u53 u54 u55 u56 u57 u58 u59 u60 u61 u62 u63 u64 u65 u66 u67 u68 u69 u70 u71 u72 u73 u74 u75 u76 u77 u78 u79 u80 u81 u82 u83 u84 u85 u86 u87 u88 u89 u90 u91 u92 u93 u94 u95 u96 u97 u98 u99 u100 u101 u102 u103 u104 u105 u106 u107 u108 u109 u110 u111 u112 u113 u114 u115 u116 u117 u118 u119 u120 u121 u122 u123 u124 u125 u126 u127 u128 u129 u130 u131 u132 u133 u134 u135 u136 u137 u138 u139 u140 u141 u142 u143 u144 u145 u146 u147 u148 u149 u150 u151 u152 u153 u154 u155 u156 u157 u158 u159 u160 u161 u162 u163 u164 u165 u166 u167 u168 u169 u170 u171 u172 u173 u174 u175 u176 u177 u178 u179 u180 u181 u182 u183 u184 u185 u186 u187 u188 u189 u190 u191 u192 u193 u194 u195 u196 u197 u198 u199 u200 u201 u202 u203 u204 u205 u206 u207 u208 u209 u210 u211 u212 u213 u214 u215 u216 u217 u218 u219 u220 u221 u222 u223 u224 u225 u226 u227 u228 u229 u230 u231 u232 u233 u234 u235 u236 u237 u238 u239 u240 u241 u242 u243 u244 u245 u246 u247 u248 u249 u250 u251 u252 u253 u254 u255 u256 u257 u258 u259 u260 u261 u262 u263 u264 u265 u266 u267 u268 : Value) (W' : World), OwnF w0.heap.size W' (.slice al ll cl) u.log → OwnI w0.heap.size W' (.slice am np cm) u.m → OwnI w0.heap.size W' (.slice aw np cw) (wayL np u.q) → Below w0.heap.size w0 W' → ll = u.log.length → err ≠ 0 → runN n h = (u, t, err) → Mx ⟨(c0 :: (.int .i64 h) :: (.pointer (some ⟨bn, 0, none⟩)) :: c3 :: (.pointer (some ⟨B4, 0, none⟩)) :: (.int .i64 err) :: (.pointer (some ⟨R, 0, none⟩)) :: c7 :: u8 :: u9 :: u10 :: u11 :: u12 :: u13 :: u14 :: u15 :: u16 :: u17 :: u18 :: u19 :: u20 :: u21 :: u22 :: c23 :: c24 :: c25 :: c26 :: c27 :: c28 :: c29 :: c30 :: c31 :: c32 :: c33 :: c34 :: c35 :: c36 :: c37 :: c38 :: c39 :: c40 :: c41 :: c42 :: c43 :: c44 :: c45 :: u46 :: u47 :: u48 :: u49 :: u50 :: u51 :: u52 :: u53 :: u54 :: u55 :: u56 :: u57 :: u58 :: u59 :: u60 :: u61 :: u62 :: u63 :: u64 :: u65 :: u66 :: u67 :: u68 :: u69 :: u70 :: u71 :: u72 :: u73 :: u74 :: u75 :: u76 :: u77 :: u78 :: u79 :: u80 :: u81 :: u82 :: u83 :: u84 :: u85 :: u86 :: u87 :: u88 :: u89 :: u90 :: u91 :: u92 :: u93 :: u94 :: u95 :: u96 :: u97 :: u98 :: u99 :: u100 :: u101 :: u102 :: u103 :: u104 :: u105 :: u106 :: u107 :: u108 :: u109 :: u110 :: u111 :: u112 :: u113 :: u114 :: u115 :: u116 :: u117 :: u118 :: u119 :: u120 :: u121 :: u122 :: u123 :: u124 :: u125 :: u126 :: u127 :: u128 :: u129 :: u130 :: u131 :: u132 :: u133 :: u134 :: u135 :: u136 :: u137 :: u138 :: u139 :: u140 :: u141 :: u142 :: u143 :: u144 :: u145 :: u146 :: u147 :: u148 :: u149 :: u150 :: u151 :: u152 :: u153 :: u154 :: u155 :: u156 :: u157 :: u158 :: u159 :: u160 :: u161 :: u162 :: u163 :: u164 :: u165 :: u166 :: u167 :: u168 :: u169 :: u170 :: u171 :: u172 :: u173 :: u174 :: u175 :: u176 :: u177 :: u178 :: u179 :: u180 :: u181 :: u182 :: u183 :: u184 :: u185 :: u186 :: u187 :: u188 :: u189 :: u190 :: u191 :: u192 :: u193 :: u194 :: u195 :: u196 :: u197 :: u198 :: u199 :: u200 :: u201 :: u202 :: u203 :: u204 :: u205 :: u206 :: u207 :: u208 :: u209 :: u210 :: u211 :: u212 :: u213 :: u214 :: u215 :: u216 :: u217 :: u218 :: u219 :: u220 :: u221 :: u222 :: u223 :: u224 :: u225 :: u226 :: u227 :: u228 :: u229 :: u230 :: u231 :: u232 :: u233 :: u234 :: u235 :: u236 :: u237 :: u238 :: u239 :: u240 :: u241 :: u242 :: u243 :: u244 :: u245 :: u246 :: u247 :: u248 :: u249 :: u250 :: u251 :: u252 :: u253 :: u254 :: u255 :: u256 :: u257 :: u258 :: u259 :: u260 :: u261 :: u262 :: u263 :: u264 :: u265 :: u266 :: u267 :: u268 :: c269 :: []).toArray, []⟩ ((((W'.setCell ⟨B4, 0, none⟩ (.slice al ll cl)).setCell ⟨B4, 1, none⟩ (.slice am np cm)).setCell ⟨B4, 2, none⟩ (.slice aw np cw)).setCell ⟨B4, 3, none⟩ (.int .i64 t)))
    : Code.wp Try.prog (Code.loop timesBody) (outPost 2 Nx Mx) ⟨(c0 :: (.int .i64 h) :: (.pointer (some ⟨bn, 0, none⟩)) :: c3 :: (.pointer (some ⟨B4, 0, none⟩)) :: c5 :: (.pointer (some ⟨R, 0, none⟩)) :: c7 :: (.slice none 0 0) :: (.int .i64 0) :: c10 :: c11 :: c12 :: c13 :: c14 :: c15 :: c16 :: c17 :: c18 :: c19 :: c20 :: c21 :: c22 :: c23 :: c24 :: c25 :: c26 :: c27 :: c28 :: c29 :: c30 :: c31 :: c32 :: c33 :: c34 :: c35 :: c36 :: c37 :: c38 :: c39 :: c40 :: c41 :: c42 :: c43 :: c44 :: c45 :: c46 :: c47 :: c48 :: c49 :: c50 :: c51 :: c52 :: c53 :: c54 :: c55 :: c56 :: c57 :: c58 :: c59 :: c60 :: c61 :: c62 :: c63 :: c64 :: c65 :: c66 :: c67 :: c68 :: c69 :: c70 :: c71 :: c72 :: c73 :: c74 :: c75 :: c76 :: c77 :: c78 :: c79 :: c80 :: c81 :: c82 :: c83 :: c84 :: c85 :: c86 :: c87 :: c88 :: c89 :: c90 :: c91 :: c92 :: c93 :: c94 :: c95 :: c96 :: c97 :: c98 :: c99 :: c100 :: c101 :: c102 :: c103 :: c104 :: c105 :: c106 :: c107 :: c108 :: c109 :: c110 :: c111 :: c112 :: c113 :: c114 :: c115 :: c116 :: c117 :: c118 :: c119 :: c120 :: c121 :: c122 :: c123 :: c124 :: c125 :: c126 :: c127 :: c128 :: c129 :: c130 :: c131 :: c132 :: c133 :: c134 :: c135 :: c136 :: c137 :: c138 :: c139 :: c140 :: c141 :: c142 :: c143 :: c144 :: c145 :: c146 :: c147 :: c148 :: c149 :: c150 :: c151 :: c152 :: c153 :: c154 :: c155 :: c156 :: c157 :: c158 :: c159 :: c160 :: c161 :: c162 :: c163 :: c164 :: c165 :: c166 :: c167 :: c168 :: c169 :: c170 :: c171 :: c172 :: c173 :: c174 :: c175 :: c176 :: c177 :: c178 :: c179 :: c180 :: c181 :: c182 :: c183 :: c184 :: c185 :: c186 :: c187 :: c188 :: c189 :: c190 :: c191 :: c192 :: c193 :: c194 :: c195 :: c196 :: c197 :: c198 :: c199 :: c200 :: c201 :: c202 :: c203 :: c204 :: c205 :: c206 :: c207 :: c208 :: c209 :: c210 :: c211 :: c212 :: c213 :: c214 :: c215 :: c216 :: c217 :: c218 :: c219 :: c220 :: c221 :: c222 :: c223 :: c224 :: c225 :: c226 :: c227 :: c228 :: c229 :: c230 :: c231 :: c232 :: c233 :: c234 :: c235 :: c236 :: c237 :: c238 :: c239 :: c240 :: c241 :: c242 :: c243 :: c244 :: c245 :: c246 :: c247 :: c248 :: c249 :: c250 :: c251 :: c252 :: c253 :: c254 :: c255 :: c256 :: c257 :: c258 :: c259 :: c260 :: c261 :: c262 :: c263 :: c264 :: c265 :: c266 :: c267 :: c268 :: c269 :: []).toArray, []⟩ w1 := by
  conv => arg 2; arg 1; whnf
  have HN := Lib.hid hn
  have Hnp := Lib.hid hnp
  have Hnt := Lib.hid hnt
  have Hnet := Lib.hid hnet
  have Hb0 := Lib.hid hb0
  have Hb1 := Lib.hid hb1
  have Hc4 := Lib.hid hc4
  have Hf4 := Lib.hid hf4
  have HR0 := Lib.hid hR
  have Hex := Lib.hid hexit
  have Hret := Lib.hid hret
  have HI0 := Lib.hid (start_inv hn)
  have hnt32 : nt ≤ 1000000 := by have := hn.tr; omega
  obtain ⟨A, hA⟩ : ∃ A, A = runN n h := ⟨_, rfl⟩
  have HA : Hid (A = if (0 : Int) ≤ h then times n.trans h (h.toNat + 1) 0 (start n) else (start n, 0, 0)) := Lib.hid (by rw [hA, runN])
  rw [← hA] at Hex Hret
  clear hA hn hnp hnt hnet hb0 hb1 hc4 hf4 hR hexit hret
  go_loopg [8, 9] (h.toNat + 1) (fun k q z wr => ∃ (tt tc : Int) (u : St) (a : Option Addr) (nr c : Nat), q = .slice a nr c ∧ z = .int .i64 tt ∧ RefAt w0 wr R tc u.log u.m (wayL np u.q) [evRow (.slice a nr c) u.q] ∧ Hid (nr = u.q.length) ∧ Inv n tt u ∧ (∀ e ∈ u.q, tt ≤ e.time) ∧ (tt ≤ h → (h - tt).toNat + 1 ≤ k) ∧ Hid (A = if tt ≤ h then times n.trans h k tt u else (u, tc, 0)))
  case atStart => exact ⟨0, 0, start n, none, 0, 0, rfl, rfl, HR0.out, Lib.hid rfl, HI0.out, (fun e he => by cases he), fun _ => by omega, HA⟩
  case round =>
    obtain ⟨tt, tc, u, a, nr, c, rfl, rfl, hR, Hnr, hI, hge, hk, HK⟩ := hrel
    rename World => v1
    by_cases g2 : tt ≤ h
    · obtain ⟨k, rfl⟩ : ∃ k, gk = k + 1 := ⟨gk - 1, by have := hk g2; omega⟩
      have kt := hR.tcell
      have kf := hR.froz 3
      have kl := hR.lt.2
      have H1 := Lib.hid (hR.time tt)
      have hlen : u.m.length = np := by rw [hI.len, Hnp.out]
      have Hlen := Lib.hid hlen
      have HI := Lib.hid hI
      have Hge := Lib.hid hge
      have HK2 : Hid (A = times n.trans h (k + 1) tt u) := Lib.hid (by rw [HK.out, if_pos g2])
      have Hk := Lib.hid (hk g2)
      obtain ⟨i1, i2, i3⟩ := instAll_inv HN.out hI
      have Hi1 := Lib.hid i1
      have Hi2 := Lib.hid i2
      have Herr := Lib.hid (fun he => times_err (ts := n.trans) (h := h) (t := tt) (k := k) (s := u) he)
      have Hgo := Lib.hid (fun he => times_go (ts := n.trans) (h := h) (t := tt) (k := k) (s := u) he)
      obtain ⟨j1, j2⟩ := arrive_inv hI
      have Hj1 := Lib.hid j1
      have Hj2 := Lib.hid j2
      have Hall : Hid (instAll n.trans tt u = inst n.trans tt 2001 (List.replicate nt 0) (arrive tt u)) := Lib.hid (by rw [Hnt.out]; rfl)
      clear hR hI hge hk HK i1 i2 i3 j1 j2 hlen HR0 HI0 HA
      go_wp2
      have hr := H1.out
      rw [← Hlen.out] at hr
      refine loop_of 4 (wait_loop (n := n) (s := u) Hnr.out HI.out Hge.out hr ?_)
      intro a2 n2 c2
      intro p12 p13 p51 p52 p53 p54 p55 p56 p57 p58 p59 p60 p61 p62 p63 p64 p65 p66 p67 p68 p69 p70 p71 p72 p73 p74 p75 p76 p77 p78 p79 p80 p81 p82 p83 p84 p85 p86 p87 p88
      intro W2 hr2 hn2
      rw [Hlen.out] at hr2
      have h2 := hr2.sub (more' := [evRow (.slice a2 n2 c2) (arrive tt u).q]) (by simp [arrive])
      have H2 := Lib.hid h2
      have Hn2 := Lib.hid hn2
      clear hr hr2 hn2 h2 H1 kt kf kl
      go_wp2
      obtain ⟨am, cm, km, hM, -⟩ := H2.out.toks
      have hl2 : (arrM tt u.q u.m).length = np := by have := foldE_len (u.q.filter (due tt)) u.m; rw [show arrM tt u.q u.m = (u.q.filter (due tt)).foldl addE u.m from rfl, this]; exact Hlen.out
      have hMa := OwnI.at_ hM
      rw [hl2] at km hMa
      refine loop_of 6 (over_loop hl2.symm H2.out.lt.2 km hMa (fun z hz => ?_) ?_)
      · obtain ⟨j, hj, hje⟩ := List.mem_iff_getElem.1 hz
        exact (few_tokens Hj1.out (k := j) (z := z) (by show (arrM tt u.q u.m)[j]? = some z; rw [List.getElem?_eq_getElem hj, hje])).2
      intro r14 r90 r91 r92 r93 r94 r95 r96 r97 r98 r99 r100 r101 r102 r103 r104 r105
      intro W3 hb3
      have h3 := H2.out.go hb3
      have H3 := Lib.hid h3
      have n1 := (below_cells h3.low bn 1 hbl).trans Hb1.out
      have hbl1 : bn < W3.heap.size := Nat.lt_of_lt_of_le hbl h3.low.size
      obtain ⟨w5, hmk, ho5, hb5⟩ := run_make_ints nt hnt32 W3
      have h5 := h3.add hb5 (r := intRow (.slice (some ⟨W3.heap.size, 0, none⟩) nt nt) (List.replicate nt 0)) (own_mono (by rw [intRow]; exact ho5) h3.low.size) (fun k e => by injection e with e; subst e; exact Nat.le_refl _)
      have H5 := Lib.hid h5
      clear h3 H3 H2 hb3 km hMa hM hl2 ho5 hb5 h5
      go_wp2
      clear hmk n1 hbl1
      have h5 := H5.out
      refine loop_of 8 (firings_loop (n := n) (u0 := arrive tt u) HN.out Hnp.out Hnt.out Hnet.out Hb0.out Hb1.out hbl hB4 Hc4.out Hf4.out Hj1.out Hj2.out Hn2.out h5 ?_ ?_)
      · intro u2 a3 n3 c3 cs
        intro r5 r16 r17 r18 r19 r20 r112 r113 r114 r115 r116 r117 r118 r119 r120 r121 r122 r123 r124 r125 r126 r127 r128 r129 r130 r131 r132 r133 r134 r135 r136 r137 r138 r139 r140 r141 r142 r143 r144 r145 r146 r147 r148 r149 r150 r151 r152 r153 r154 r155 r156 r157 r158 r159 r160 r161 r162 r163 r164 r165 r166 r167 r168 r169 r170 r171 r172 r173 r174 r175 r176 r177 r178 r179 r180 r181 r182 r183 r184 r185 r186 r187 r188 r189 r190 r191 r192 r193 r194 r195 r196 r197 r198 r199 r200 r201 r202 r203 r204 r205 r206 r207 r208 r209 r210 r211 r212 r213 r214 r215 r216 r217 r218 r219 r220 r221 r222 r223 r224 r225 r226 r227 r228 r229 r230 r231 r232 r233 r234 r235 r236 r237 r238 r239 r240 r241 r242 r243
        intro W6 hr6 hn6 hA6
        rw [← Hall.out] at hA6
        have HA6 := Lib.hid hA6
        have H6 := Lib.hid (hr6.sub (more' := [evRow (.slice a3 n3 c3) u2.q]) (by simp))
        have Hn6 := Lib.hid hn6
        clear hr6 hn6 hA6 h5 H5
        go_wp2
        have hev := H6.out.evs (a := a3) (nq := n3) (c := c3) (q := u2.q) (by simp)
        refine loop_of 14 (next_loop Hn6.out hev ?_)
        intro s22 s244 s245 s246 s247 s248 s249 s250 s251 s252 s253 s254 s255 s256 s257 s258 s259 s260 s261 s262 s263 s264 s265
        intro W7 hb7
        have H7 := Lib.hid (H6.out.go hb7)
        clear hev hb7
        have hi1 := Hi1.out
        have hi2 := Hi2.out
        have hgo := Hgo.out
        rw [HA6.out] at hi1 hi2 hgo
        simp only at hi1 hi2 hgo
        have HK3 := Lib.hid (HK2.out.trans (hgo trivial))
        have Hnx := Lib.hid (fun h0 => next_inv hi1 hi2 h0)
        obtain ⟨z, hz⟩ : ∃ z, z = nextT u2.q := ⟨_, rfl⟩
        rw [← hz] at HK3 Hnx ⊢
        clear hi1 hi2 hgo H6
        by_cases g3 : z < 0
        · have g3b : decide (z < 0) = true := decide_eq_true g3
          have HE : Hid (A = (u2, tt, 0)) := Lib.hid (by rw [HK3.out, if_neg (by omega)])
          clear hz
          go_wp2
          exact And.intro rfl (Hex.out u2 tt _ _ _ _ _ _ _ _ _ _ _ _ _ _ _ _ _ _ _ _ _ _ _ _ _ _ _ _ _ _ _ _ _ _ _ _ _ _ _ _ _ _ _ _ _ _ _ _ _ _ _ _ _ _ _ _ _ _ _ _ _ _ _ _ _ _ _ _ _ _ _ _ _ _ _ _ _ _ _ _ _ _ _ _ _ _ _ _ _ _ _ _ _ _ _ _ _ _ _ _ _ _ _ _ _ _ _ _ _ _ _ _ _ _ _ _ _ _ _ _ _ _ _ _ _ _ _ _ _ _ _ _ _ _ _ _ _ _ _ _ _ _ _ _ _ _ _ _ _ _ _ _ _ _ _ _ _ _ _ _ _ _ _ _ _ _ _ _ _ _ _ _ _ _ _ _ _ _ _ _ _ _ _ _ _ _ _ _ _ _ _ _ _ _ _ _ _ _ _ _ _ _ _ _ _ _ _ _ _ _ _ _ _ _ _ _ _ _ _ _ _ _ _ _ _ _ _ _ _ _ _ _ _ _ _ _ _ _ _ _ (H7.out.sub (by simp)) HE.out)
        · have g3b : decide (z < 0) = false := decide_eq_false g3
          have Hz := Lib.hid hz
          clear hz
          go_wp2
          go_roundg k
          case measure => omega
          case rel =>
            obtain ⟨x1, x2, x3⟩ := Hnx.out (by omega)
            exact ⟨z, tt, u2, a3, n3, c3, rfl, rfl, H7.out, Hn6, x2, x3, fun h1 => by have := Hk.out; omega, Lib.hid (by rw [HK3.out, if_low (by omega)])⟩
      · intro err u2 al ll cl am cm aw cw
        intro r8 r10 r16 r17 r18 r19 r20 r112 r113 r114 r115 r116 r117 r118 r119 r120 r121 r122 r123 r124 r125 r126 r127 r128 r129 r130 r131 r132 r133 r134 r135 r136 r137 r138 r139 r140 r141 r142 r143 r144 r145 r146 r147 r148 r149 r150 r151 r152 r153 r154 r155 r156 r157 r158 r159 r160 r161 r162 r163 r164 r165 r166 r167 r168 r169 r170 r171 r172 r173 r174 r175 r176 r177 r178 r179 r180 r181 r182 r183 r184 r185 r186 r187 r188 r189 r190 r191 r192 r193 r194 r195 r196 r197 r198 r199 r200 r201 r202 r203 r204 r205 r206 r207 r208 r209 r210 r211 r212 r213 r214 r215 r216 r217 r218 r219 r220 r221 r222 r223 r224 r225 r226 r227 r228 r229 r230 r231 r232 r233 r234 r235 r236 r237 r238 r239 r240 r241 r242 r243
        intro W6 h60 h61 h62 h63 h64 h65 hA6
        rw [← Hall.out] at hA6
        have he := Herr.out
        rw [hA6] at he
        exact Hret.out err u2 tt al ll cl am cm aw cw _ _ _ _ _ _ _ _ _ _ _ _ _ _ _ _ _ _ _ _ _ _ _ _ _ _ _ _ _ _ _ _ _ _ _ _ _ _ _ _ _ _ _ _ _ _ _ _ _ _ _ _ _ _ _ _ _ _ _ _ _ _ _ _ _ _ _ _ _ _ _ _ _ _ _ _ _ _ _ _ _ _ _ _ _ _ _ _ _ _ _ _ _ _ _ _ _ _ _ _ _ _ _ _ _ _ _ _ _ _ _ _ _ _ _ _ _ _ _ _ _ _ _ _ _ _ _ _ _ _ _ _ _ _ _ _ _ _ _ _ _ _ _ _ _ _ _ _ _ _ _ _ _ _ _ _ _ _ _ _ _ _ _ _ _ _ _ _ _ _ _ _ _ _ _ _ _ _ _ _ _ _ _ _ _ _ _ _ _ _ _ _ _ _ _ _ _ _ _ _ _ _ _ _ _ _ _ _ _ _ _ _ _ _ _ _ _ _ _ _ _ _ _ _ _ _ _ _ _ _ _ _ _ _ _ _ _ _ _ h60 h61 h62 h63 h64 h65 (HK2.out.trans (he h65))
    · have g2b : decide (tt ≤ h) = false := decide_eq_false g2
      have HE : Hid (A = (u, tc, 0)) := Lib.hid (by rw [HK.out, if_neg g2])
      have H1 := Lib.hid (hR.sub (more' := []) (by simp))
      clear hR hI hge hk
      go_wp2
      exact And.intro rfl (Hex.out u tc _ _ _ _ _ _ _ _ _ _ _ _ _ _ _ _ _ _ _ _ _ _ _ _ _ _ _ _ _ _ _ _ _ _ _ _ _ _ _ _ _ _ _ _ _ _ _ _ _ _ _ _ _ _ _ _ _ _ _ _ _ _ _ _ _ _ _ _ _ _ _ _ _ _ _ _ _ _ _ _ _ _ _ _ _ _ _ _ _ _ _ _ _ _ _ _ _ _ _ _ _ _ _ _ _ _ _ _ _ _ _ _ _ _ _ _ _ _ _ _ _ _ _ _ _ _ _ _ _ _ _ _ _ _ _ _ _ _ _ _ _ _ _ _ _ _ _ _ _ _ _ _ _ _ _ _ _ _ _ _ _ _ _ _ _ _ _ _ _ _ _ _ _ _ _ _ _ _ _ _ _ _ _ _ _ _ _ _ _ _ _ _ _ _ _ _ _ _ _ _ _ _ _ _ _ _ _ _ _ _ _ _ _ _ _ _ _ _ _ _ _ _ _ _ _ _ _ _ _ _ _ _ _ _ _ _ _ _ _ _ H1.out HE.out)
end Go.Proofs.Ytpbbdnicafifpaa
