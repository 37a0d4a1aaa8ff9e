/-
  The walk of the law PlainNone, up to twenty places.
  Conditions: none beyond the theorems' own.
-/
import Derived.Test.YtpfdmmidomofdaaNoneWalk
import Derived.Test.YtpfdmmidomofdaaNetHand
import Derived.Deep.RegionHeld3
import Derived.Deep.RegionLaw
namespace Go.Proofs.Ytpfdmmidomofdaa
open Go.RowKit
set_option linter.unusedVariables false

/-- the transitions that never may, laid cell by cell -/
def noneX (V : World) (m : Nat) : World := ((((V.alloc (.cells #[.int .i64 0, .int .i64 256] 52)).alloc (.cells #[.int .i64 0, .int .i64 1] 52)).alloc (.cells #[.int .i64 0, .int .i64 1] 52)).alloc (.cells #[.string { data := #[116] }, .int .i64 0, .int .i64 0, .slice (some ⟨m, 0, none⟩) 1 1, .slice none 0 0, .slice none 0 0, .string { data := #[117] }, .int .i64 0, .int .i64 0, .slice (some ⟨m + 1 + 1, 0, none⟩) 1 1, .slice (some ⟨m + 1, 0, none⟩) 1 1, .slice none 0 0] 46))
theorem noneX_below (V : World) (m : Nat) : Below V.heap.size V (noneX V m) := ((((Below.refl _ V).alloc (Nat.le_refl _) _).alloc (by simp) _).alloc (by simp; omega) _).alloc (by simp; omega) _
theorem noneX_at (V : World) (m : Nat) (hm : V.heap.size = m) : RowAt 6 (noneX V m) (.slice (some ⟨m + 1 + 1 + 1, 0, none⟩) 2 2) 2 ([(noneT, Value.slice (some ⟨m, 0, none⟩) 1 1, Value.slice none 0 0, Value.slice none 0 0), (noneU, Value.slice (some ⟨m + 1 + 1, 0, none⟩) 1 1, Value.slice (some ⟨m + 1, 0, none⟩) 1 1, Value.slice none 0 0)].flatMap trL) ∧ ArcsAt (noneX V m) (.slice (some ⟨m, 0, none⟩) 1 1) [(0, 256)] ∧ ArcsAt (noneX V m) (.slice (some ⟨m + 1, 0, none⟩) 1 1) [(0, 1)] ∧ ArcsAt (noneX V m) (.slice (some ⟨m + 1 + 1, 0, none⟩) 1 1) [(0, 1)] := by
  subst hm
  have hsz : (noneX V V.heap.size).heap.size = V.heap.size + 1 + 1 + 1 + 1 := by unfold noneX; simp
  have k0 : CellsAre (noneX V V.heap.size) V.heap.size 0 [.int .i64 0, .int .i64 256] := ⟨by unfold noneX; go_simp, by unfold noneX; go_simp, trivial⟩
  have k1 : CellsAre (noneX V V.heap.size) (V.heap.size + 1) 0 [.int .i64 0, .int .i64 1] := ⟨by unfold noneX; go_simp, by unfold noneX; go_simp, trivial⟩
  have k2 : CellsAre (noneX V V.heap.size) (V.heap.size + 1 + 1) 0 [.int .i64 0, .int .i64 1] := ⟨by unfold noneX; go_simp, by unfold noneX; go_simp, trivial⟩
  have k3 : CellsAre (noneX V V.heap.size) (V.heap.size + 1 + 1 + 1) 0 [.string { data := #[116] }, .int .i64 0, .int .i64 0, .slice (some ⟨V.heap.size, 0, none⟩) 1 1, .slice none 0 0, .slice none 0 0, .string { data := #[117] }, .int .i64 0, .int .i64 0, .slice (some ⟨V.heap.size + 1 + 1, 0, none⟩) 1 1, .slice (some ⟨V.heap.size + 1, 0, none⟩) 1 1, .slice none 0 0] := by
    refine ⟨?_, ?_, ?_, ?_, ?_, ?_, ?_, ?_, ?_, ?_, ?_, ?_, trivial⟩
    all_goals (unfold noneX; go_simp)
  exact ⟨k3.row (by omega) rfl (Nat.le_refl _) (by omega), k0.row (by omega) rfl (Nat.le_refl _) (by omega), k1.row (by omega) rfl (Nat.le_refl _) (by omega), k2.row (by omega) rfl (Nat.le_refl _) (by omega)⟩

theorem run_conv1d (w : World) (k c : Nat) (h : c + k < 256) : (convert 22 9 (.slice (some ⟨w.heap.size, 0, none⟩) 1 1)).run Try.prog (w.alloc (.cells #[.int .u8 ((c : Int) + (k : Int))] 5)).drew = .ok (.string (bs [UInt8.ofNat (c + k)])) (w.alloc (.cells #[.int .u8 ((c : Int) + (k : Int))] 5)).drew := by
  have hz : zi (UInt8.ofNat (c + k)) = (c : Int) + (k : Int) := by
    unfold zi
    have : (UInt8.ofNat (c + k)).toNat = c + k := by simp; omega
    rw [this]; omega
  generalize UInt8.ofNat (c + k) = y at hz ⊢
  have hB : BytesAt (w.alloc (.cells #[.int .u8 (zi y)] 5)) (some ⟨w.heap.size, 0, none⟩) 1 [y] := ⟨rfl, fun _ => ⟨_, _, rfl, by simp, fun i x hx => by
    rw [Nat.zero_add, cell_marked]
    match i, hx with
    | 0, hx => simp at hx; subst hx; rfl⟩⟩
  have hB2 : BytesAt (w.alloc (.cells #[.int .u8 (zi y)] 5)).drew (some ⟨w.heap.size, 0, none⟩) 1 [y] := ⟨hB.len, hB.cells⟩
  have hcv := hB2.str 1
  rw [hz] at hcv
  exact hcv


set_option maxRecDepth 100000 in
set_option maxHeartbeats 4000000 in
theorem none_small {w : World} {aT : Option Addr} {nT cT : Nat} {hz : Int} {nv : Bool} {l : List UInt8} (h : BytesAt w aT nT l) (h20 : nT ≤ 20) :
    Calls Try.prog 5 #[.slice aT nT cT, .int .i64 hz, .bool nv] w fun e w' => e = .returned (.bool true) ∧ Below w.heap.size w w' := by
  have H := Lib.hid h
  obtain ⟨ts, hts⟩ : ∃ ts, ts = l.map (fun x => x.toNat) := ⟨_, rfl⟩
  have Hts := Lib.hid hts
  clear h hts
  go_enter Try.func5, Try.ntmps5
  go_wp2_with fail
  refine (awake9 _).mono ?_
  rintro e w1 ⟨rfl, hb⟩
  have Hb := Lib.hid hb
  clear hb
  have h20i : ¬ ((20 : Int) < (nT : Int)) := by omega
  go_wp2_with fail
  go_loopw [8] (fun i wr => ∃ k : Nat, k ≤ nT ∧ i = .int .i64 k ∧ ∃ vp, InNo w1 wr vp (nonePls ts k)) (fun i _ => nT - (intOf i).toNat)
  case atStart => exact ⟨0, by omega, rfl, _, InNo.start _⟩
  case round =>
    rename World => v1
    obtain ⟨k, hk, rfl, vp, hin⟩ := hrel
    have n0 := hin.n0
    have hsz := hin.sz
    by_cases hlt : k < nT
    · have hlti : (k : Int) < (nT : Int) := by omega
      obtain ⟨b, off, x, rfl, hbw1, hx, _, f9⟩ := (H.out.below Hb.out).at_ hlt
      have f0 := (hin.below.cell (p := ⟨b, off + k, none⟩) hbw1).trans f9
      have hbw : b < v1.heap.size := by omega
      have hw8 : IntKind.u8.wrap (97 + (k : Int)) = 97 + (k : Int) := u8_in _ (by omega) (by omega)
      have hcv := run_conv1d v1 k 97 (by omega)
      rw [show ((97 : Nat) : Int) = 97 from rfl] at hcv
      obtain ⟨sv, hsv⟩ : ∃ sv, sv = bs [UInt8.ofNat (97 + k)] := ⟨_, rfl⟩
      rw [← hsv] at hcv
      have hcat : ({ data := #[112] } : ByteArray) ++ sv = nameP k := by rw [hsv]; exact nameP_cat k
      have hsvs : sv.size = 1 := by rw [hsv]; rfl
      obtain ⟨nm, hnm⟩ : ∃ nm, nm = nameP k := ⟨_, rfl⟩
      rw [← hnm] at hcat
      have hmk : (⟨nameP k, ((ts.getD k 0 : Nat) : Int)⟩ : Pl) = ⟨nm, zi x⟩ := by
        rw [hnm, Hts.out, List.getD_eq_getElem?_getD, List.getElem?_map, hx]; rfl
      have hbW : Below v1.heap.size v1 (v1.alloc (.cells #[.int .u8 (97 + (k : Int))] 5)).drew := below_drew ((Below.refl _ _).alloc (Nat.le_refl _) _)
      have hsW : (v1.alloc (.cells #[.int .u8 (97 + (k : Int))] 5)).drew.heap.size = v1.heap.size + 1 := by show (v1.alloc _).heap.size = _; simp
      obtain ⟨v2, w2, hr, ho2, hk2, hv2⟩ := run_push_pl 28 (⟨nm, zi x⟩ : Pl) (w := (v1.alloc (.cells #[.int .u8 (97 + (k : Int))] 5)).drew) (hin.go hbW).pl (by rw [nonePls_len]; omega) (by have := hin.below.size; rw [hsW]; omega)
      obtain ⟨av2, nv2, cv2, rfl⟩ := own_form3 ho2
      obtain ⟨hin2, g1, g2, g3⟩ := hin.pushP hbW ho2 hk2 hv2
      rw [hsW] at hr
      have hb12 : Below w1.heap.size w1 w2 := (hin.go hbW).below.trans ((hk2.mono (fun j _ e => (Row.lt (r := plRow vp (nonePls ts k)) (hin.go hbW).pl e).1)).below (fun j hj => hj) (hin.go hbW).below.size)
      have hinW9 := Lib.hid (hin.go hbW)
      have f3 := (hin2.below.cell (p := ⟨b, off + k, none⟩) hbw1).trans f9
      have f2 := (hb12.cell (p := ⟨b, off + k, none⟩) hbw1).trans f9
      rw [← hmk, ← nonePls_succ] at hin2
      have Hin2 := Lib.hid hin2
      have hzx : 0 ≤ zi x ∧ zi x < 256 := by unfold zi; have := x.toNat_lt; omega
      obtain ⟨z, hz⟩ : ∃ z, z = zi x := ⟨_, rfl⟩
      rw [← hz] at f0 f2 f3 hr hzx
      clear hin hin2 ho2 hk2 hv2 hmk hnm hsv hz hx hbW hsW hb12 f9
      go_wp2_with fail
      have n0' := (hinW9.out).n0
      have hw64 : IntKind.i64.wrap (97 + (k : Int)) = 97 + (k : Int) := by simp [IntKind.wrap, IntKind.bits, IntKind.signed]; omega
      have hwz : IntKind.i64.wrap z = z := by simp [IntKind.wrap, IntKind.bits, IntKind.signed]; omega
      refine wp_region_held_drew (S := (fun w' : World => w'.cell? ⟨b, off + k, none⟩ = some (.int .u8 z))) (by kernel_rfl) f0 (fun hHeld => ?_)
      refine wpAnyH_take (i := 0) (oi := { dst := some 27, op := Op.fieldAddr 31 (Operand.tmp 7) 0, type := 0, pos := "more.go:80", after := #[], guard := none }) (v := ?_) rfl (by kernel_rfl) (by kernel_rfl) (by kernel_rfl) (fun _ _ _ h => h) (Or.inl ⟨by rfl, ?hy1⟩) (by assumption) ?rest1
      case hy1 =>
        intro w hSw
        try dsimp only at hSw
        go_simp
        all_goals with_reducible rfl
      try simp only [Act.put, List.setIfInBounds_toArray, List.set_cons_zero, List.set_cons_succ]
      refine wpAnyH_take (i := 2) (oi := { dst := some 29, op := Op.move (Operand.tmp 8), type := 3, pos := "more.go:80", after := #[], guard := none }) (v := ?_) rfl (by kernel_rfl) (by kernel_rfl) (by kernel_rfl) (fun _ _ _ h => h) (Or.inl ⟨by rfl, ?hy2⟩) (by assumption) ?rest2
      case hy2 =>
        intro w hSw
        try dsimp only at hSw
        go_simp
        all_goals with_reducible rfl
      try simp only [Act.put, List.setIfInBounds_toArray, List.set_cons_zero, List.set_cons_succ]
      refine wpAnyH_take (i := 3) (oi := { dst := some 30, op := Op.binOp BinOp.add 3 (Operand.const (Value.int IntKind.i64 97)) (Operand.tmp 29) 3, type := 3, pos := "more.go:80", after := #[{ on := 2, ground := Ground.data }], guard := none }) (v := ?_) rfl (by kernel_rfl) (by kernel_rfl) (by kernel_rfl) (fun _ _ _ h => h) (Or.inl ⟨by rfl, ?hy3⟩) (by assumption) ?rest3
      case hy3 =>
        intro w hSw
        try dsimp only at hSw
        go_simp
        all_goals with_reducible rfl
      try simp only [Act.put, List.setIfInBounds_toArray, List.set_cons_zero, List.set_cons_succ]
      refine wpAnyH_take (i := 4) (oi := { dst := some 31, op := Op.convert 3 5 (Operand.tmp 30), type := 5, pos := "more.go:80", after := #[{ on := 3, ground := Ground.data }], guard := none }) (v := ?_) rfl (by kernel_rfl) (by kernel_rfl) (by kernel_rfl) (fun _ _ _ h => h) (Or.inl ⟨by rfl, ?hy4⟩) (by assumption) ?rest4
      case hy4 =>
        intro w hSw
        try dsimp only at hSw
        go_simp
        all_goals with_reducible rfl
      try simp only [Act.put, List.setIfInBounds_toArray, List.set_cons_zero, List.set_cons_succ]
      refine wpAnyH_take (i := 8) (oi := { dst := some 35, op := Op.move (Operand.tmp 0), type := 22, pos := "more.go:80", after := #[], guard := none }) (v := ?_) rfl (by kernel_rfl) (by kernel_rfl) (by kernel_rfl) (fun _ _ _ h => h) (Or.inl ⟨by rfl, ?hy5⟩) (by assumption) ?rest5
      case hy5 =>
        intro w hSw
        try dsimp only at hSw
        go_simp
        all_goals with_reducible rfl
      try simp only [Act.put, List.setIfInBounds_toArray, List.set_cons_zero, List.set_cons_succ]
      refine wpAnyH_take (i := 9) (oi := { dst := some 36, op := Op.move (Operand.tmp 8), type := 3, pos := "more.go:80", after := #[], guard := none }) (v := ?_) rfl (by kernel_rfl) (by kernel_rfl) (by kernel_rfl) (fun _ _ _ h => h) (Or.inl ⟨by rfl, ?hy6⟩) (by assumption) ?rest6
      case hy6 =>
        intro w hSw
        try dsimp only at hSw
        go_simp
        all_goals with_reducible rfl
      try simp only [Act.put, List.setIfInBounds_toArray, List.set_cons_zero, List.set_cons_succ]
      refine wpAnyH_take (i := 10) (oi := { dst := some 37, op := Op.indexAddr 22 (Operand.tmp 35) (Operand.tmp 36), type := 0, pos := "more.go:80", after := #[{ on := 8, ground := Ground.data }, { on := 9, ground := Ground.data }], guard := none }) (v := ?_) rfl (by kernel_rfl) (by kernel_rfl) (by kernel_rfl) (fun _ _ _ h => h) (Or.inl ⟨by rfl, ?hy7⟩) (by assumption) ?rest7
      case hy7 =>
        intro w hSw
        try dsimp only at hSw
        go_simp
        all_goals with_reducible rfl
      try simp only [Act.put, List.setIfInBounds_toArray, List.set_cons_zero, List.set_cons_succ]
      refine wpAnyH_take (i := 11) (oi := { dst := some 38, op := Op.load 5 (Operand.tmp 37), type := 5, pos := "more.go:80", after := #[{ on := 10, ground := Ground.data }], guard := none }) (v := ?_) rfl (by kernel_rfl) (by kernel_rfl) (by kernel_rfl) (fun _ _ _ h => h) (Or.inl ⟨by rfl, ?hy8⟩) (by assumption) ?rest8
      case hy8 =>
        intro w hSw
        try dsimp only at hSw
        go_simp
        all_goals with_reducible rfl
      try simp only [Act.put, List.setIfInBounds_toArray, List.set_cons_zero, List.set_cons_succ]
      refine wpAnyH_take (i := 12) (oi := { dst := some 39, op := Op.convert 5 3 (Operand.tmp 38), type := 3, pos := "more.go:80", after := #[{ on := 11, ground := Ground.data }], guard := none }) (v := ?_) rfl (by kernel_rfl) (by kernel_rfl) (by kernel_rfl) (fun _ _ _ h => h) (Or.inl ⟨by rfl, ?hy9⟩) (by assumption) ?rest9
      case hy9 =>
        intro w hSw
        try dsimp only at hSw
        go_simp
        all_goals with_reducible rfl
      try simp only [Act.put, List.setIfInBounds_toArray, List.set_cons_zero, List.set_cons_succ]
      refine wpAnyH_ready (rs := [1, 5]) (by kernel_rfl) (by simp) ?_
      refine AllReadyH.cons (o := { dst := some 28, op := Op.load 28 (Operand.tmp 27), type := 28, pos := "more.go:80", after := #[{ on := 0, ground := Ground.data }], guard := none }) rfl (fun K hK => ?step10) ?more10
      case step10 =>
        go_simp
        refine hK.out _ _ ?hs10 (fun hHeld => ?go10)
        case hs10 => assumption
        clear hK K
        try simp only [Act.put, List.setIfInBounds_toArray, List.set_cons_zero, List.set_cons_succ]
        refine wpAnyH_ready (rs := [5]) (by kernel_rfl) (by simp) ?_
        refine AllReadyH.cons (o := { dst := some 32, op := Op.buildSlice 22 1 #[(0, Operand.tmp 31)], type := 22, pos := "more.go:80", after := #[{ on := 4, ground := Ground.data }], guard := none }) rfl (fun K hK => ?step11) ?more11
        case step11 =>
          go_simp
          refine hK.out _ _ ?hs11 (fun hHeld => ?go11)
          case hs11 => go_simp
          clear hK K
          try simp only [Act.put, List.setIfInBounds_toArray, List.set_cons_zero, List.set_cons_succ]
          refine wpAnyH_ready (rs := [6]) (by kernel_rfl) (by simp) ?_
          refine AllReadyH.cons (o := { dst := some 33, op := Op.convert 22 9 (Operand.tmp 32), type := 9, pos := "more.go:80", after := #[{ on := 5, ground := Ground.data }], guard := none }) rfl (fun K hK => ?step12) ?more12
          case step12 =>
            go_simp
            refine hK.out _ _ ?hs12 (fun hHeld => ?go12)
            case hs12 => assumption
            clear hK K
            try simp only [Act.put, List.setIfInBounds_toArray, List.set_cons_zero, List.set_cons_succ]
            refine wpAnyH_take (i := 7) (oi := { dst := some 34, op := Op.binOp BinOp.add 9 (Operand.const (Value.string { data := #[112] })) (Operand.tmp 33) 9, type := 9, pos := "more.go:80", after := #[{ on := 6, ground := Ground.data }], guard := none }) (v := ?_) rfl (by kernel_rfl) (by kernel_rfl) (by kernel_rfl) (fun _ _ _ h => h) (Or.inl ⟨by rfl, ?hy13⟩) (by assumption) ?rest13
            case hy13 =>
              intro w hSw
              try dsimp only at hSw
              go_simp
              all_goals with_reducible rfl
            try simp only [Act.put, List.setIfInBounds_toArray, List.set_cons_zero, List.set_cons_succ]
            refine wpAnyH_take (i := 13) (oi := { dst := some 40, op := Op.build 50 #[(0, Operand.tmp 34), (1, Operand.tmp 39)], type := 50, pos := "more.go:80", after := #[{ on := 7, ground := Ground.data }, { on := 12, ground := Ground.data }], guard := none }) (v := ?_) rfl (by kernel_rfl) (by kernel_rfl) (by kernel_rfl) (fun _ _ _ h => h) (Or.inl ⟨by rfl, ?hy14⟩) (by assumption) ?rest14
            case hy14 =>
              intro w hSw
              try dsimp only at hSw
              go_simp
              all_goals with_reducible rfl
            try simp only [Act.put, List.setIfInBounds_toArray, List.set_cons_zero, List.set_cons_succ]
            refine wpAnyH_ready (rs := [14]) (by kernel_rfl) (by simp) ?_
            refine AllReadyH.cons (o := { dst := some 41, op := Op.buildSlice 28 1 #[(0, Operand.tmp 40)], type := 28, pos := "more.go:80", after := #[{ on := 13, ground := Ground.data }], guard := none }) rfl (fun K hK => ?step15) ?more15
            case step15 =>
              go_simp
              refine hK.out _ _ ?hs15 (fun hHeld => ?go15)
              case hs15 => go_simp
              clear hK K
              try simp only [Act.put, List.setIfInBounds_toArray, List.set_cons_zero, List.set_cons_succ]
              refine wpAnyH_ready (rs := [15]) (by kernel_rfl) (by simp) ?_
              refine AllReadyH.cons (o := { dst := some 42, op := Op.call { callee := Callee.builtin Builtin.append, args := #[Operand.tmp 28, Operand.tmp 41], argTypes := #[28, 28] }, type := 28, pos := "more.go:80", after := #[{ on := 1, ground := Ground.data }, { on := 14, ground := Ground.data }], guard := none }) rfl (fun K hK => ?step16) ?more16
              case step16 =>
                refine step_append_eq (by rfl) (.tmp 28) (.tmp 41) 28 (by rfl) (by rfl) (by rfl) hr ?_
                refine hK.out _ _ ?hs16 (fun hHeld => ?go16)
                case hs16 => exact f2
                clear hK K
                try simp only [Act.put, List.setIfInBounds_toArray, List.set_cons_zero, List.set_cons_succ]
                refine wpAnyH_take (i := 16) (oi := { dst := some 43, op := Op.fieldAddr 31 (Operand.tmp 7) 0, type := 0, pos := "more.go:80", after := #[{ on := 0, ground := Ground.phase }, { on := 1, ground := Ground.phase }, { on := 2, ground := Ground.phase }, { on := 3, ground := Ground.phase }, { on := 4, ground := Ground.phase }, { on := 5, ground := Ground.phase }, { on := 6, ground := Ground.phase }, { on := 7, ground := Ground.phase }, { on := 8, ground := Ground.phase }, { on := 9, ground := Ground.phase }, { on := 10, ground := Ground.phase }, { on := 11, ground := Ground.phase }, { on := 12, ground := Ground.phase }, { on := 13, ground := Ground.phase }, { on := 14, ground := Ground.phase }, { on := 15, ground := Ground.phase }], guard := none }) (v := ?_) rfl (by kernel_rfl) (by kernel_rfl) (by kernel_rfl) (fun _ _ _ h => h) (Or.inl ⟨by rfl, ?hy17⟩) (by assumption) ?rest17
                case hy17 =>
                  intro w hSw
                  try dsimp only at hSw
                  go_simp
                  all_goals with_reducible rfl
                try simp only [Act.put, List.setIfInBounds_toArray, List.set_cons_zero, List.set_cons_succ]
                refine wpAnyH_ready (rs := [17]) (by kernel_rfl) (by simp) ?_
                refine AllReadyH.cons (o := { dst := none, op := Op.store 28 (Operand.tmp 43) (Operand.tmp 42), type := 0, pos := "more.go:80", after := #[{ on := 16, ground := Ground.data }, { on := 15, ground := Ground.data }, { on := 15, ground := Ground.chain }, { on := 0, ground := Ground.phase }, { on := 1, ground := Ground.phase }, { on := 2, ground := Ground.phase }, { on := 3, ground := Ground.phase }, { on := 4, ground := Ground.phase }, { on := 5, ground := Ground.phase }, { on := 6, ground := Ground.phase }, { on := 7, ground := Ground.phase }, { on := 8, ground := Ground.phase }, { on := 9, ground := Ground.phase }, { on := 10, ground := Ground.phase }, { on := 11, ground := Ground.phase }, { on := 12, ground := Ground.phase }, { on := 13, ground := Ground.phase }, { on := 14, ground := Ground.phase }, { on := 15, ground := Ground.phase }], guard := none }) rfl (fun K hK => ?step18) ?more18
                case step18 =>
                  go_simp
                  refine hK.out _ _ ?hs18 (fun hHeld => ?go18)
                  case hs18 => exact f3
                  clear hK K
                  try simp only [Act.put, List.setIfInBounds_toArray, List.set_cons_zero, List.set_cons_succ]
                  refine wpAnyH_done (by kernel_rfl) ?_ _
                  clear hHeld
                  clear n0 n0' f0 f2 f3 hr
                  go_wp2
                  go_roundw
                  case rel => exact ⟨k + 1, by omega, by go_num, _, Hin2.out⟩
                  case measure => simp [intOf]; omega
                case more18 => exact AllReadyH.nil
              case more16 => exact AllReadyH.nil
            case more15 => exact AllReadyH.nil
          case more12 => exact AllReadyH.nil
        case more11 => exact AllReadyH.nil
      case more10 =>
        refine AllReadyH.cons (o := { dst := some 32, op := Op.buildSlice 22 1 #[(0, Operand.tmp 31)], type := 22, pos := "more.go:80", after := #[{ on := 4, ground := Ground.data }], guard := none }) rfl (fun K hK => ?step19) ?more19
        case step19 =>
          go_simp
          refine hK.out _ _ ?hs19 (fun hHeld => ?go19)
          case hs19 => go_simp
          clear hK K
          try simp only [Act.put, List.setIfInBounds_toArray, List.set_cons_zero, List.set_cons_succ]
          refine wpAnyH_ready (rs := [1, 6]) (by kernel_rfl) (by simp) ?_
          refine AllReadyH.cons (o := { dst := some 28, op := Op.load 28 (Operand.tmp 27), type := 28, pos := "more.go:80", after := #[{ on := 0, ground := Ground.data }], guard := none }) rfl (fun K hK => ?step20) ?more20
          case step20 =>
            go_simp
            refine hK.out _ _ ?hs20 (fun hHeld => ?go20)
            case hs20 => assumption
            clear hK K
            try simp only [Act.put, List.setIfInBounds_toArray, List.set_cons_zero, List.set_cons_succ]
            refine wpAnyH_ready (rs := [6]) (by kernel_rfl) (by simp) ?_
            refine AllReadyH.cons (o := { dst := some 33, op := Op.convert 22 9 (Operand.tmp 32), type := 9, pos := "more.go:80", after := #[{ on := 5, ground := Ground.data }], guard := none }) rfl (fun K hK => ?step21) ?more21
            case step21 =>
              go_simp
              refine hK.out _ _ ?hs21 (fun hHeld => ?go21)
              case hs21 => assumption
              clear hK K
              try simp only [Act.put, List.setIfInBounds_toArray, List.set_cons_zero, List.set_cons_succ]
              refine wpAnyH_take (i := 7) (oi := { dst := some 34, op := Op.binOp BinOp.add 9 (Operand.const (Value.string { data := #[112] })) (Operand.tmp 33) 9, type := 9, pos := "more.go:80", after := #[{ on := 6, ground := Ground.data }], guard := none }) (v := ?_) rfl (by kernel_rfl) (by kernel_rfl) (by kernel_rfl) (fun _ _ _ h => h) (Or.inl ⟨by rfl, ?hy22⟩) (by assumption) ?rest22
              case hy22 =>
                intro w hSw
                try dsimp only at hSw
                go_simp
                all_goals with_reducible rfl
              try simp only [Act.put, List.setIfInBounds_toArray, List.set_cons_zero, List.set_cons_succ]
              refine wpAnyH_take (i := 13) (oi := { dst := some 40, op := Op.build 50 #[(0, Operand.tmp 34), (1, Operand.tmp 39)], type := 50, pos := "more.go:80", after := #[{ on := 7, ground := Ground.data }, { on := 12, ground := Ground.data }], guard := none }) (v := ?_) rfl (by kernel_rfl) (by kernel_rfl) (by kernel_rfl) (fun _ _ _ h => h) (Or.inl ⟨by rfl, ?hy23⟩) (by assumption) ?rest23
              case hy23 =>
                intro w hSw
                try dsimp only at hSw
                go_simp
                all_goals with_reducible rfl
              try simp only [Act.put, List.setIfInBounds_toArray, List.set_cons_zero, List.set_cons_succ]
              refine wpAnyH_ready (rs := [14]) (by kernel_rfl) (by simp) ?_
              refine AllReadyH.cons (o := { dst := some 41, op := Op.buildSlice 28 1 #[(0, Operand.tmp 40)], type := 28, pos := "more.go:80", after := #[{ on := 13, ground := Ground.data }], guard := none }) rfl (fun K hK => ?step24) ?more24
              case step24 =>
                go_simp
                refine hK.out _ _ ?hs24 (fun hHeld => ?go24)
                case hs24 => go_simp
                clear hK K
                try simp only [Act.put, List.setIfInBounds_toArray, List.set_cons_zero, List.set_cons_succ]
                refine wpAnyH_ready (rs := [15]) (by kernel_rfl) (by simp) ?_
                refine AllReadyH.cons (o := { dst := some 42, op := Op.call { callee := Callee.builtin Builtin.append, args := #[Operand.tmp 28, Operand.tmp 41], argTypes := #[28, 28] }, type := 28, pos := "more.go:80", after := #[{ on := 1, ground := Ground.data }, { on := 14, ground := Ground.data }], guard := none }) rfl (fun K hK => ?step25) ?more25
                case step25 =>
                  refine step_append_eq (by rfl) (.tmp 28) (.tmp 41) 28 (by rfl) (by rfl) (by rfl) hr ?_
                  refine hK.out _ _ ?hs25 (fun hHeld => ?go25)
                  case hs25 => exact f2
                  clear hK K
                  try simp only [Act.put, List.setIfInBounds_toArray, List.set_cons_zero, List.set_cons_succ]
                  refine wpAnyH_take (i := 16) (oi := { dst := some 43, op := Op.fieldAddr 31 (Operand.tmp 7) 0, type := 0, pos := "more.go:80", after := #[{ on := 0, ground := Ground.phase }, { on := 1, ground := Ground.phase }, { on := 2, ground := Ground.phase }, { on := 3, ground := Ground.phase }, { on := 4, ground := Ground.phase }, { on := 5, ground := Ground.phase }, { on := 6, ground := Ground.phase }, { on := 7, ground := Ground.phase }, { on := 8, ground := Ground.phase }, { on := 9, ground := Ground.phase }, { on := 10, ground := Ground.phase }, { on := 11, ground := Ground.phase }, { on := 12, ground := Ground.phase }, { on := 13, ground := Ground.phase }, { on := 14, ground := Ground.phase }, { on := 15, ground := Ground.phase }], guard := none }) (v := ?_) rfl (by kernel_rfl) (by kernel_rfl) (by kernel_rfl) (fun _ _ _ h => h) (Or.inl ⟨by rfl, ?hy26⟩) (by assumption) ?rest26
                  case hy26 =>
                    intro w hSw
                    try dsimp only at hSw
                    go_simp
                    all_goals with_reducible rfl
                  try simp only [Act.put, List.setIfInBounds_toArray, List.set_cons_zero, List.set_cons_succ]
                  refine wpAnyH_ready (rs := [17]) (by kernel_rfl) (by simp) ?_
                  refine AllReadyH.cons (o := { dst := none, op := Op.store 28 (Operand.tmp 43) (Operand.tmp 42), type := 0, pos := "more.go:80", after := #[{ on := 16, ground := Ground.data }, { on := 15, ground := Ground.data }, { on := 15, ground := Ground.chain }, { on := 0, ground := Ground.phase }, { on := 1, ground := Ground.phase }, { on := 2, ground := Ground.phase }, { on := 3, ground := Ground.phase }, { on := 4, ground := Ground.phase }, { on := 5, ground := Ground.phase }, { on := 6, ground := Ground.phase }, { on := 7, ground := Ground.phase }, { on := 8, ground := Ground.phase }, { on := 9, ground := Ground.phase }, { on := 10, ground := Ground.phase }, { on := 11, ground := Ground.phase }, { on := 12, ground := Ground.phase }, { on := 13, ground := Ground.phase }, { on := 14, ground := Ground.phase }, { on := 15, ground := Ground.phase }], guard := none }) rfl (fun K hK => ?step27) ?more27
                  case step27 =>
                    go_simp
                    refine hK.out _ _ ?hs27 (fun hHeld => ?go27)
                    case hs27 => exact f3
                    clear hK K
                    try simp only [Act.put, List.setIfInBounds_toArray, List.set_cons_zero, List.set_cons_succ]
                    refine wpAnyH_done (by kernel_rfl) ?_ _
                    clear hHeld
                    clear n0 n0' f0 f2 f3 hr
                    go_wp2
                    go_roundw
                    case rel => exact ⟨k + 1, by omega, by go_num, _, Hin2.out⟩
                    case measure => simp [intOf]; omega
                  case more27 => exact AllReadyH.nil
                case more25 => exact AllReadyH.nil
              case more24 => exact AllReadyH.nil
            case more21 => exact AllReadyH.nil
          case more20 =>
            refine AllReadyH.cons (o := { dst := some 33, op := Op.convert 22 9 (Operand.tmp 32), type := 9, pos := "more.go:80", after := #[{ on := 5, ground := Ground.data }], guard := none }) rfl (fun K hK => ?step28) ?more28
            case step28 =>
              go_simp
              refine hK.out _ _ ?hs28 (fun hHeld => ?go28)
              case hs28 => assumption
              clear hK K
              try simp only [Act.put, List.setIfInBounds_toArray, List.set_cons_zero, List.set_cons_succ]
              refine wpAnyH_take (i := 7) (oi := { dst := some 34, op := Op.binOp BinOp.add 9 (Operand.const (Value.string { data := #[112] })) (Operand.tmp 33) 9, type := 9, pos := "more.go:80", after := #[{ on := 6, ground := Ground.data }], guard := none }) (v := ?_) rfl (by kernel_rfl) (by kernel_rfl) (by kernel_rfl) (fun _ _ _ h => h) (Or.inl ⟨by rfl, ?hy29⟩) (by assumption) ?rest29
              case hy29 =>
                intro w hSw
                try dsimp only at hSw
                go_simp
                all_goals with_reducible rfl
              try simp only [Act.put, List.setIfInBounds_toArray, List.set_cons_zero, List.set_cons_succ]
              refine wpAnyH_take (i := 13) (oi := { dst := some 40, op := Op.build 50 #[(0, Operand.tmp 34), (1, Operand.tmp 39)], type := 50, pos := "more.go:80", after := #[{ on := 7, ground := Ground.data }, { on := 12, ground := Ground.data }], guard := none }) (v := ?_) rfl (by kernel_rfl) (by kernel_rfl) (by kernel_rfl) (fun _ _ _ h => h) (Or.inl ⟨by rfl, ?hy30⟩) (by assumption) ?rest30
              case hy30 =>
                intro w hSw
                try dsimp only at hSw
                go_simp
                all_goals with_reducible rfl
              try simp only [Act.put, List.setIfInBounds_toArray, List.set_cons_zero, List.set_cons_succ]
              refine wpAnyH_ready (rs := [1, 14]) (by kernel_rfl) (by simp) ?_
              refine AllReadyH.cons (o := { dst := some 28, op := Op.load 28 (Operand.tmp 27), type := 28, pos := "more.go:80", after := #[{ on := 0, ground := Ground.data }], guard := none }) rfl (fun K hK => ?step31) ?more31
              case step31 =>
                go_simp
                refine hK.out _ _ ?hs31 (fun hHeld => ?go31)
                case hs31 => assumption
                clear hK K
                try simp only [Act.put, List.setIfInBounds_toArray, List.set_cons_zero, List.set_cons_succ]
                refine wpAnyH_ready (rs := [14]) (by kernel_rfl) (by simp) ?_
                refine AllReadyH.cons (o := { dst := some 41, op := Op.buildSlice 28 1 #[(0, Operand.tmp 40)], type := 28, pos := "more.go:80", after := #[{ on := 13, ground := Ground.data }], guard := none }) rfl (fun K hK => ?step32) ?more32
                case step32 =>
                  go_simp
                  refine hK.out _ _ ?hs32 (fun hHeld => ?go32)
                  case hs32 => go_simp
                  clear hK K
                  try simp only [Act.put, List.setIfInBounds_toArray, List.set_cons_zero, List.set_cons_succ]
                  refine wpAnyH_ready (rs := [15]) (by kernel_rfl) (by simp) ?_
                  refine AllReadyH.cons (o := { dst := some 42, op := Op.call { callee := Callee.builtin Builtin.append, args := #[Operand.tmp 28, Operand.tmp 41], argTypes := #[28, 28] }, type := 28, pos := "more.go:80", after := #[{ on := 1, ground := Ground.data }, { on := 14, ground := Ground.data }], guard := none }) rfl (fun K hK => ?step33) ?more33
                  case step33 =>
                    refine step_append_eq (by rfl) (.tmp 28) (.tmp 41) 28 (by rfl) (by rfl) (by rfl) hr ?_
                    refine hK.out _ _ ?hs33 (fun hHeld => ?go33)
                    case hs33 => exact f2
                    clear hK K
                    try simp only [Act.put, List.setIfInBounds_toArray, List.set_cons_zero, List.set_cons_succ]
                    refine wpAnyH_take (i := 16) (oi := { dst := some 43, op := Op.fieldAddr 31 (Operand.tmp 7) 0, type := 0, pos := "more.go:80", after := #[{ on := 0, ground := Ground.phase }, { on := 1, ground := Ground.phase }, { on := 2, ground := Ground.phase }, { on := 3, ground := Ground.phase }, { on := 4, ground := Ground.phase }, { on := 5, ground := Ground.phase }, { on := 6, ground := Ground.phase }, { on := 7, ground := Ground.phase }, { on := 8, ground := Ground.phase }, { on := 9, ground := Ground.phase }, { on := 10, ground := Ground.phase }, { on := 11, ground := Ground.phase }, { on := 12, ground := Ground.phase }, { on := 13, ground := Ground.phase }, { on := 14, ground := Ground.phase }, { on := 15, ground := Ground.phase }], guard := none }) (v := ?_) rfl (by kernel_rfl) (by kernel_rfl) (by kernel_rfl) (fun _ _ _ h => h) (Or.inl ⟨by rfl, ?hy34⟩) (by assumption) ?rest34
                    case hy34 =>
                      intro w hSw
                      try dsimp only at hSw
                      go_simp
                      all_goals with_reducible rfl
                    try simp only [Act.put, List.setIfInBounds_toArray, List.set_cons_zero, List.set_cons_succ]
                    refine wpAnyH_ready (rs := [17]) (by kernel_rfl) (by simp) ?_
                    refine AllReadyH.cons (o := { dst := none, op := Op.store 28 (Operand.tmp 43) (Operand.tmp 42), type := 0, pos := "more.go:80", after := #[{ on := 16, ground := Ground.data }, { on := 15, ground := Ground.data }, { on := 15, ground := Ground.chain }, { on := 0, ground := Ground.phase }, { on := 1, ground := Ground.phase }, { on := 2, ground := Ground.phase }, { on := 3, ground := Ground.phase }, { on := 4, ground := Ground.phase }, { on := 5, ground := Ground.phase }, { on := 6, ground := Ground.phase }, { on := 7, ground := Ground.phase }, { on := 8, ground := Ground.phase }, { on := 9, ground := Ground.phase }, { on := 10, ground := Ground.phase }, { on := 11, ground := Ground.phase }, { on := 12, ground := Ground.phase }, { on := 13, ground := Ground.phase }, { on := 14, ground := Ground.phase }, { on := 15, ground := Ground.phase }], guard := none }) rfl (fun K hK => ?step35) ?more35
                    case step35 =>
                      go_simp
                      refine hK.out _ _ ?hs35 (fun hHeld => ?go35)
                      case hs35 => exact f3
                      clear hK K
                      try simp only [Act.put, List.setIfInBounds_toArray, List.set_cons_zero, List.set_cons_succ]
                      refine wpAnyH_done (by kernel_rfl) ?_ _
                      clear hHeld
                      clear n0 n0' f0 f2 f3 hr
                      go_wp2
                      go_roundw
                      case rel => exact ⟨k + 1, by omega, by go_num, _, Hin2.out⟩
                      case measure => simp [intOf]; omega
                    case more35 => exact AllReadyH.nil
                  case more33 => exact AllReadyH.nil
                case more32 => exact AllReadyH.nil
              case more31 =>
                refine AllReadyH.cons (o := { dst := some 41, op := Op.buildSlice 28 1 #[(0, Operand.tmp 40)], type := 28, pos := "more.go:80", after := #[{ on := 13, ground := Ground.data }], guard := none }) rfl (fun K hK => ?step36) ?more36
                case step36 =>
                  go_simp
                  refine hK.out _ _ ?hs36 (fun hHeld => ?go36)
                  case hs36 => go_simp
                  clear hK K
                  try simp only [Act.put, List.setIfInBounds_toArray, List.set_cons_zero, List.set_cons_succ]
                  refine wpAnyH_ready (rs := [1]) (by kernel_rfl) (by simp) ?_
                  refine AllReadyH.cons (o := { dst := some 28, op := Op.load 28 (Operand.tmp 27), type := 28, pos := "more.go:80", after := #[{ on := 0, ground := Ground.data }], guard := none }) rfl (fun K hK => ?step37) ?more37
                  case step37 =>
                    go_simp
                    refine hK.out _ _ ?hs37 (fun hHeld => ?go37)
                    case hs37 => assumption
                    clear hK K
                    try simp only [Act.put, List.setIfInBounds_toArray, List.set_cons_zero, List.set_cons_succ]
                    refine wpAnyH_ready (rs := [15]) (by kernel_rfl) (by simp) ?_
                    refine AllReadyH.cons (o := { dst := some 42, op := Op.call { callee := Callee.builtin Builtin.append, args := #[Operand.tmp 28, Operand.tmp 41], argTypes := #[28, 28] }, type := 28, pos := "more.go:80", after := #[{ on := 1, ground := Ground.data }, { on := 14, ground := Ground.data }], guard := none }) rfl (fun K hK => ?step38) ?more38
                    case step38 =>
                      refine step_append_eq (by rfl) (.tmp 28) (.tmp 41) 28 (by rfl) (by rfl) (by rfl) hr ?_
                      refine hK.out _ _ ?hs38 (fun hHeld => ?go38)
                      case hs38 => exact f2
                      clear hK K
                      try simp only [Act.put, List.setIfInBounds_toArray, List.set_cons_zero, List.set_cons_succ]
                      refine wpAnyH_take (i := 16) (oi := { dst := some 43, op := Op.fieldAddr 31 (Operand.tmp 7) 0, type := 0, pos := "more.go:80", after := #[{ on := 0, ground := Ground.phase }, { on := 1, ground := Ground.phase }, { on := 2, ground := Ground.phase }, { on := 3, ground := Ground.phase }, { on := 4, ground := Ground.phase }, { on := 5, ground := Ground.phase }, { on := 6, ground := Ground.phase }, { on := 7, ground := Ground.phase }, { on := 8, ground := Ground.phase }, { on := 9, ground := Ground.phase }, { on := 10, ground := Ground.phase }, { on := 11, ground := Ground.phase }, { on := 12, ground := Ground.phase }, { on := 13, ground := Ground.phase }, { on := 14, ground := Ground.phase }, { on := 15, ground := Ground.phase }], guard := none }) (v := ?_) rfl (by kernel_rfl) (by kernel_rfl) (by kernel_rfl) (fun _ _ _ h => h) (Or.inl ⟨by rfl, ?hy39⟩) (by assumption) ?rest39
                      case hy39 =>
                        intro w hSw
                        try dsimp only at hSw
                        go_simp
                        all_goals with_reducible rfl
                      try simp only [Act.put, List.setIfInBounds_toArray, List.set_cons_zero, List.set_cons_succ]
                      refine wpAnyH_ready (rs := [17]) (by kernel_rfl) (by simp) ?_
                      refine AllReadyH.cons (o := { dst := none, op := Op.store 28 (Operand.tmp 43) (Operand.tmp 42), type := 0, pos := "more.go:80", after := #[{ on := 16, ground := Ground.data }, { on := 15, ground := Ground.data }, { on := 15, ground := Ground.chain }, { on := 0, ground := Ground.phase }, { on := 1, ground := Ground.phase }, { on := 2, ground := Ground.phase }, { on := 3, ground := Ground.phase }, { on := 4, ground := Ground.phase }, { on := 5, ground := Ground.phase }, { on := 6, ground := Ground.phase }, { on := 7, ground := Ground.phase }, { on := 8, ground := Ground.phase }, { on := 9, ground := Ground.phase }, { on := 10, ground := Ground.phase }, { on := 11, ground := Ground.phase }, { on := 12, ground := Ground.phase }, { on := 13, ground := Ground.phase }, { on := 14, ground := Ground.phase }, { on := 15, ground := Ground.phase }], guard := none }) rfl (fun K hK => ?step40) ?more40
                      case step40 =>
                        go_simp
                        refine hK.out _ _ ?hs40 (fun hHeld => ?go40)
                        case hs40 => exact f3
                        clear hK K
                        try simp only [Act.put, List.setIfInBounds_toArray, List.set_cons_zero, List.set_cons_succ]
                        refine wpAnyH_done (by kernel_rfl) ?_ _
                        clear hHeld
                        clear n0 n0' f0 f2 f3 hr
                        go_wp2
                        go_roundw
                        case rel => exact ⟨k + 1, by omega, by go_num, _, Hin2.out⟩
                        case measure => simp [intOf]; omega
                      case more40 => exact AllReadyH.nil
                    case more38 => exact AllReadyH.nil
                  case more37 => exact AllReadyH.nil
                case more36 => exact AllReadyH.nil
            case more28 => exact AllReadyH.nil
        case more19 => exact AllReadyH.nil
    · have hge : ¬ (k : Int) < (nT : Int) := by omega
      obtain rfl : nT = k := by omega
      have Hlen : Hid (ts.length = nT) := Lib.hid (by rw [Hts.out, List.length_map]; exact H.out.len)
      have Hlt : Hid (∀ t ∈ ts, t < 256) := Lib.hid (fun t ht => by rw [Hts.out, List.mem_map] at ht; obtain ⟨x, _, rfl⟩ := ht; exact x.toNat_lt)
      have hpl := hin.pl
      obtain ⟨ap, cp, rfl⟩ := own_form hpl
      rw [nonePls_len] at n0 hpl hin
      have hplA : PlsAt v1 (.slice ap nT cp) (nonePls ts nT) := OwnP.at_ hpl
      have n1 := hin.n1
      have HlowA := Lib.hid (Hb.out.trans (hin.below.mono Hb.out.size))
      by_cases hc : nv = true ∧ 0 < nT
      · obtain ⟨rfl, hp0⟩ := hc
        have hp0i : (0 : Int) < (nT : Int) := by omega
        obtain ⟨b, off, x, rfl, hbw1, hx, _, f9⟩ := (H.out.below Hb.out).at_ (k := 0) (by omega)
        have f0 := (hin.below.cell (p := ⟨b, off + 0, none⟩) hbw1).trans f9
        have hbv1 : b < v1.heap.size := Nat.lt_of_lt_of_le hbw1 hin.below.size
        have hzx : 0 ≤ zi x ∧ zi x < 256 := by unfold zi; have := x.toNat_lt; omega
        obtain ⟨z, hz'⟩ : ∃ z, z = zi x := ⟨_, rfl⟩
        rw [← hz'] at f0 hzx
        have hwz : IntKind.i64.wrap z = z := by simp [IntKind.wrap, IntKind.bits, IntKind.signed]; omega
        have hq0 : z.tdiv 256 = 0 := by rw [Int.tdiv_eq_ediv_of_nonneg hzx.1]; omega
        have hq1 : z / 256 = 0 := by omega
        have hbn0 := boxRow.froz hin.bn 1
        rw [Nat.add_zero] at f0
        have s1 : w1.heap.size < v1.heap.size + 1 := by omega
        have s2 : w1.heap.size < v1.heap.size + 1 + 1 := by omega
        have s3 : w1.heap.size < v1.heap.size + 1 + 1 + 1 := by omega
        have s4 : ¬ w1.heap.size = v1.heap.size := by omega
        have s5 : ¬ w1.heap.size = v1.heap.size + 1 := by omega
        have s6 : ¬ w1.heap.size = v1.heap.size + 1 + 1 := by omega
        have s7 : ¬ w1.heap.size = v1.heap.size + 1 + 1 + 1 := by omega
        clear f9 hx hz'
        go_upto_region 10 with (fail)
        have hst := AllOwn.store (pre := []) (b := w1.heap.size) (t := 31) (cs := [.slice ap nT cp, .slice none 0 0]) (post := [plRow (.slice ap nT cp) (nonePls ts nT)]) hin.all 1 (.slice (some ⟨v1.heap.size + 1 + 1 + 1, 0, none⟩) 2 2)
        have hX := noneX_at (v1.setCell ⟨w1.heap.size, 1, none⟩ (.slice (some ⟨v1.heap.size + 1 + 1 + 1, 0, none⟩) 2 2)) v1.heap.size (World.size_setCell _ _ _)
        have hsx : (v1.setCell ⟨w1.heap.size, 1, none⟩ (.slice (some ⟨v1.heap.size + 1 + 1 + 1, 0, none⟩) 2 2)).heap.size = v1.heap.size := World.size_setCell _ _ _
        have hbX : Below (v1.setCell ⟨w1.heap.size, 1, none⟩ (.slice (some ⟨v1.heap.size + 1 + 1 + 1, 0, none⟩) 2 2)).heap.size (v1.setCell ⟨w1.heap.size, 1, none⟩ (.slice (some ⟨v1.heap.size + 1 + 1 + 1, 0, none⟩) 2 2)) (noneX (v1.setCell ⟨w1.heap.size, 1, none⟩ (.slice (some ⟨v1.heap.size + 1 + 1 + 1, 0, none⟩) 2 2)) v1.heap.size) := noneX_below _ _
        have hal := hst.1.below hbX
        have hbox := hal.own (boxRow w1.heap.size 31 [.slice ap nT cp, .slice (some ⟨v1.heap.size + 1 + 1 + 1, 0, none⟩) 2 2]) (by simp)
        have hplX : PlsAt (noneX (v1.setCell ⟨w1.heap.size, 1, none⟩ (.slice (some ⟨v1.heap.size + 1 + 1 + 1, 0, none⟩) 2 2)) v1.heap.size) (.slice ap nT cp) (nonePls ts nT) := OwnP.at_ (hal.own (plRow (.slice ap nT cp) (nonePls ts nT)) (by simp))
        have hWb : Below w.heap.size w (noneX (v1.setCell ⟨w1.heap.size, 1, none⟩ (.slice (some ⟨v1.heap.size + 1 + 1 + 1, 0, none⟩) 2 2)) v1.heap.size) := by
          have hkk : Kept (fun k => k = w1.heap.size) v1 (noneX (v1.setCell ⟨w1.heap.size, 1, none⟩ (.slice (some ⟨v1.heap.size + 1 + 1 + 1, 0, none⟩) 2 2)) v1.heap.size) := hst.2.trans (Kept.of_below hbX)
          exact HlowA.out.trans (hkk.below (fun k e => by subst e; exact Hb.out.size) HlowA.out.size)
        have hnet : NetAt (noneX (v1.setCell ⟨w1.heap.size, 1, none⟩ (.slice (some ⟨v1.heap.size + 1 + 1 + 1, 0, none⟩) 2 2)) v1.heap.size) (.slice ap nT cp) (.slice (some ⟨v1.heap.size + 1 + 1 + 1, 0, none⟩) 2 2) (noneN ts true) :=
          netAt_mk (by rw [show (noneN ts true).places = nonePls ts nT by unfold noneN; rw [Hlen.out]]; exact hplX) [(noneT, .slice (some ⟨v1.heap.size, 0, none⟩) 1 1, .slice none 0 0, .slice none 0 0), (noneU, .slice (some ⟨v1.heap.size + 1 + 1, 0, none⟩) 1 1, .slice (some ⟨v1.heap.size + 1, 0, none⟩) 1 1, .slice none 0 0)] (by unfold noneN noneTrs; rw [if_pos ⟨rfl, by rw [Hlen.out]; exact hp0⟩]; rfl) hX.1 (fun y hy => by
            simp only [List.mem_cons, List.not_mem_nil, or_false] at hy
            rcases hy with rfl | rfl
            · exact ⟨hX.2.1, arcsAt_nil _, arcsAt_nil _⟩
            · exact ⟨hX.2.2.2, hX.2.2.1, arcsAt_nil _⟩)
        have HNT : (2 : Nat) = (noneN ts true).trans.length := by unfold noneN noneTrs; rw [if_pos ⟨rfl, by rw [Hlen.out]; exact hp0⟩]; rfl
        have n0w := boxRow.cell hbox (j := 0) rfl
        have n1w := boxRow.cell hbox (j := 1) rfl
        have nlw := (boxRow.lt hbox).2
        obtain ⟨m3, hm3⟩ : ∃ m3, m3 = v1.heap.size + 1 + 1 + 1 := ⟨_, rfl⟩
        have HH := And.intro hnet (And.intro hWb (And.intro n0w (And.intro n1w nlw)))
        clear hnet hWb n0w n1w nlw hplX hbox hal hbX hsx hX hst hin hpl hplA n0 n1 hsz f0 hbn0 s1 s2 s3 s4 s5 s6 s7 hbv1 hzx hwz hq0 hq1
        rw [← hm3] at HH
        unfold noneX at HH
        rw [← hm3]
        revert HH
        generalize (((((v1.setCell ⟨w1.heap.size, 1, none⟩ (.slice (some ⟨m3, 0, none⟩) 2 2)).alloc (.cells #[.int .i64 0, .int .i64 256] 52)).alloc (.cells #[.int .i64 0, .int .i64 1] 52)).alloc (.cells #[.int .i64 0, .int .i64 1] 52)).alloc (.cells #[.string { data := #[116] }, .int .i64 0, .int .i64 0, .slice (some ⟨v1.heap.size, 0, none⟩) 1 1, .slice none 0 0, .slice none 0 0, .string { data := #[117] }, .int .i64 0, .int .i64 0, .slice (some ⟨v1.heap.size + 1 + 1, 0, none⟩) 1 1, .slice (some ⟨v1.heap.size + 1, 0, none⟩) 1 1, .slice none 0 0] 46)) = WX
        rintro ⟨hnet, hWb, n0, n1, hsz⟩
        clear hm3
        have Hrun := Lib.hid (run_any (w := WX) (h := hz) (n := noneN ts true) (by rw [show (noneN ts true).places.length = ts.length from nonePls_len _ _, Hlen.out]) HNT hnet (fun s hs => by rw [noneN_names] at hs; have := noneNames_size _ _ s hs; omega) (noneN_check true Hlt.out (by rw [Hlen.out]; omega)))
        rw [noneN_run true Hlt.out hz] at Hrun
        have HWb := Lib.hid hWb
        clear hnet hWb HNT
        go_wp2_with fail
        refine Hrun.out.mono ?_
        rintro e w5 ⟨al, nl, cl, bm, cm, bw, nw, rfl, hnl, hnw, ⟨r1, r2, r3⟩, hb5⟩
        obtain rfl : nl = 0 := hnl
        have hnw2 := hnw.symm
        clear hnw
        subst hnw2
        simp only [resV]
        have Hb5 := Lib.hid (HWb.out.trans (hb5.mono HWb.out.size))
        have R2 := Lib.hid r2
        have R3 := Lib.hid r3
        have hbox : Below w5.heap.size w5 (w5.alloc (.cells #[.slice al 0 cl, .slice (some ⟨bm, 0, none⟩) nT cm, .slice (some ⟨bw, 0, none⟩) nT nT, .int .i64 0] 36)) := (Below.refl _ _).alloc (Nat.le_refl _) _
        have h2 : IntsAt w5 (.slice (some ⟨bm, 0, none⟩) nT cm) ((noneN ts true).places.map (·.tok)) := r2
        have h3 : IntsAt w5 (.slice (some ⟨bw, 0, none⟩) nT nT) (wayL ((noneN ts true).places.map (·.tok)).length []) := r3
        have H2 := Lib.hid (h2.below hbox)
        have H3 := Lib.hid (h3.below hbox)
        have p1 : (w5.alloc (.cells #[.slice al 0 cl, .slice (some ⟨bm, 0, none⟩) nT cm, .slice (some ⟨bw, 0, none⟩) nT nT, .int .i64 0] 36)).cell? ⟨w5.heap.size, 1, none⟩ = some (.slice (some ⟨bm, 0, none⟩) nT cm) := by go_simp
        have p2 : (w5.alloc (.cells #[.slice al 0 cl, .slice (some ⟨bm, 0, none⟩) nT cm, .slice (some ⟨bw, 0, none⟩) nT nT, .int .i64 0] 36)).cell? ⟨w5.heap.size, 2, none⟩ = some (.slice (some ⟨bw, 0, none⟩) nT nT) := by go_simp
        have hp : w5.heap.size < (w5.alloc (.cells #[.slice al 0 cl, .slice (some ⟨bm, 0, none⟩) nT cm, .slice (some ⟨bw, 0, none⟩) nT nT, .int .i64 0] 36)).heap.size := by simp
        have Hp := Lib.hid (And.intro p1 (And.intro p2 hp))
        have Hb6 := Lib.hid (Hb5.out.trans (hbox.mono Hb5.out.size))
        clear h2 h3 r1 r2 r3 hb5 hbox p1 p2 hp Hrun R2 R3
        go_wp2
        go_loopw [11] (fun i wr => ∃ k : Nat, k ≤ nT ∧ i = .int .i64 k ∧ Below (w5.alloc (.cells #[.slice al 0 cl, .slice (some ⟨bm, 0, none⟩) nT cm, .slice (some ⟨bw, 0, none⟩) nT nT, .int .i64 0] 36)).heap.size (w5.alloc (.cells #[.slice al 0 cl, .slice (some ⟨bm, 0, none⟩) nT cm, .slice (some ⟨bw, 0, none⟩) nT nT, .int .i64 0] 36)) wr) (fun i _ => nT - (intOf i).toNat)
        case atStart => exact ⟨0, by omega, rfl, Below.refl _ _⟩
        case round =>
          rename World => v5
          obtain ⟨k, hk, rfl, hbl⟩ := hrel
          have q1 := (below_cells hbl w5.heap.size 1 Hp.out.2.2).trans Hp.out.1
          have q2 := (below_cells hbl w5.heap.size 2 Hp.out.2.2).trans Hp.out.2.1
          have q3 : w5.heap.size < v5.heap.size := Nat.lt_of_lt_of_le Hp.out.2.2 hbl.size
          by_cases hlt : k < nT
          · have hlti : (k : Int) < (nT : Int) := by omega
            obtain ⟨b2, off2, x2, hbb, hbw1, hx, _, f9⟩ := (H.out.below (Hb6.out.trans (hbl.mono Hb6.out.size))).at_ hlt
            injection hbb with hbb
            injection hbb with hbb1 hbb2 _
            subst hbb1
            subst hbb2
            have hmk := noneN_marks_at ts true (i := k) (by rw [Hlen.out]; exact hlt)
            rw [show ((ts.getD k 0 : Nat) : Int) = zi x2 by rw [Hts.out, List.getD_eq_getElem?_getD, List.getElem?_map, hx]; rfl] at hmk
            obtain ⟨gm, om, em, hgm, t0⟩ := IntsAt.at_ (H2.out.below hbl) hmk
            injection em with em
            injection em with em1 em2 _
            subst em1
            subst em2
            have hwk : (wayL ((noneN ts true).places.map (·.tok)).length [])[k]? = some 0 := by
              show (List.replicate _ (0 : Int))[k]? = some 0
              rw [List.getElem?_replicate, if_pos (lt_at hmk)]
            obtain ⟨gw, ow, ew, hgw, s0⟩ := IntsAt.at_ (H3.out.below hbl) hwk
            injection ew with ew
            injection ew with ew1 ew2 _
            subst ew1
            subst ew2
            simp only [Nat.zero_add] at t0 s0
            have hzx : 0 ≤ zi x2 ∧ zi x2 < 256 := by unfold zi; have := x2.toNat_lt; omega
            obtain ⟨z, hz'⟩ : ∃ z, z = zi x2 := ⟨_, rfl⟩
            rw [← hz'] at f9 t0 hzx
            have hwz : IntKind.i64.wrap z = z := by simp [IntKind.wrap, IntKind.bits, IntKind.signed]; omega
            have Hbl := Lib.hid hbl
            have zb : (z != z) = false := by simp
            have zb2 : (z == z) = true := by simp
            clear hmk hwk hx hz' hbl
            go_wp2
            go_quiet (fail)
            go_wp2
            go_roundw
            case rel => exact ⟨k + 1, by omega, by go_num, Hbl.out.trans ((drewNb _ _).mono Hbl.out.size)⟩
            case measure => simp [intOf]; omega
          · have hge2 : ¬ (k : Int) < (nT : Int) := by omega
            have HF := Lib.hid (Hb6.out.trans (hbl.mono Hb6.out.size))
            clear hbl
            go_wp2
            go_ret
            exact ⟨rfl, HF.out⟩
      · have hNT0 : (noneN ts nv).trans = [] := by unfold noneN noneTrs; rw [if_neg (by rw [Hlen.out]; exact hc)]
        have HNT : (0 : Nat) = (noneN ts nv).trans.length := by rw [hNT0]; rfl
        have hWb : Below w.heap.size w v1 := HlowA.out
        have hpp : (noneN ts nv).places = nonePls ts nT := by unfold noneN; rw [Hlen.out]
        have hbx : Below v1.heap.size v1 (v1.alloc (.cells #[.slice ap nT cp, .slice none 0 0] 31)) := (Below.refl _ _).alloc (Nat.le_refl _) _
        have hnet : NetAt v1 (.slice ap nT cp) (.slice none 0 0) (noneN ts nv) := netAt_mk (by rw [hpp]; exact hplA) [] (by rw [hNT0]; rfl) (RowAt.nil _ _) (fun x hx => by cases hx)
        clear hin hpl hplA hpp hNT0 hbx
        cases nv with
        | false =>
          have Hrun := Lib.hid (run_any (w := v1) (h := hz) (n := noneN ts false) (by rw [show (noneN ts false).places.length = ts.length from nonePls_len _ _, Hlen.out]) HNT hnet (fun s hs => by rw [noneN_names] at hs; have := noneNames_size _ _ s hs; omega) (noneN_check false Hlt.out (by rw [Hlen.out]; omega)))
          rw [noneN_run false Hlt.out hz] at Hrun
          have HWb := Lib.hid hWb
          clear hnet hWb HNT
          go_wp2_with fail
          refine Hrun.out.mono ?_
          rintro e w5 ⟨al, nl, cl, bm, cm, bw, nw, rfl, hnl, hnw, ⟨r1, r2, r3⟩, hb5⟩
          obtain rfl : nl = 0 := hnl
          have hnw2 := hnw.symm
          clear hnw
          subst hnw2
          simp only [resV]
          have Hb5 := Lib.hid (HWb.out.trans (hb5.mono HWb.out.size))
          have R2 := Lib.hid r2
          have R3 := Lib.hid r3
          have hbox : Below w5.heap.size w5 (w5.alloc (.cells #[.slice al 0 cl, .slice (some ⟨bm, 0, none⟩) nT cm, .slice (some ⟨bw, 0, none⟩) nT nT, .int .i64 0] 36)) := (Below.refl _ _).alloc (Nat.le_refl _) _
          have h2 : IntsAt w5 (.slice (some ⟨bm, 0, none⟩) nT cm) ((noneN ts false).places.map (·.tok)) := r2
          have h3 : IntsAt w5 (.slice (some ⟨bw, 0, none⟩) nT nT) (wayL ((noneN ts false).places.map (·.tok)).length []) := r3
          have H2 := Lib.hid (h2.below hbox)
          have H3 := Lib.hid (h3.below hbox)
          have p1 : (w5.alloc (.cells #[.slice al 0 cl, .slice (some ⟨bm, 0, none⟩) nT cm, .slice (some ⟨bw, 0, none⟩) nT nT, .int .i64 0] 36)).cell? ⟨w5.heap.size, 1, none⟩ = some (.slice (some ⟨bm, 0, none⟩) nT cm) := by go_simp
          have p2 : (w5.alloc (.cells #[.slice al 0 cl, .slice (some ⟨bm, 0, none⟩) nT cm, .slice (some ⟨bw, 0, none⟩) nT nT, .int .i64 0] 36)).cell? ⟨w5.heap.size, 2, none⟩ = some (.slice (some ⟨bw, 0, none⟩) nT nT) := by go_simp
          have hp : w5.heap.size < (w5.alloc (.cells #[.slice al 0 cl, .slice (some ⟨bm, 0, none⟩) nT cm, .slice (some ⟨bw, 0, none⟩) nT nT, .int .i64 0] 36)).heap.size := by simp
          have Hp := Lib.hid (And.intro p1 (And.intro p2 hp))
          have Hb6 := Lib.hid (Hb5.out.trans (hbox.mono Hb5.out.size))
          clear h2 h3 r1 r2 r3 hb5 hbox p1 p2 hp Hrun R2 R3 hc
          go_wp2
          go_loopw [11] (fun i wr => ∃ k : Nat, k ≤ nT ∧ i = .int .i64 k ∧ Below (w5.alloc (.cells #[.slice al 0 cl, .slice (some ⟨bm, 0, none⟩) nT cm, .slice (some ⟨bw, 0, none⟩) nT nT, .int .i64 0] 36)).heap.size (w5.alloc (.cells #[.slice al 0 cl, .slice (some ⟨bm, 0, none⟩) nT cm, .slice (some ⟨bw, 0, none⟩) nT nT, .int .i64 0] 36)) wr) (fun i _ => nT - (intOf i).toNat)
          case atStart => exact ⟨0, by omega, rfl, Below.refl _ _⟩
          case round =>
            rename World => v5
            obtain ⟨k, hk, rfl, hbl⟩ := hrel
            have q1 := (below_cells hbl w5.heap.size 1 Hp.out.2.2).trans Hp.out.1
            have q2 := (below_cells hbl w5.heap.size 2 Hp.out.2.2).trans Hp.out.2.1
            have q3 : w5.heap.size < v5.heap.size := Nat.lt_of_lt_of_le Hp.out.2.2 hbl.size
            by_cases hlt : k < nT
            · have hlti : (k : Int) < (nT : Int) := by omega
              obtain ⟨b, off, x, rfl, hbw1, hx, _, f9⟩ := (H.out.below (Hb6.out.trans (hbl.mono Hb6.out.size))).at_ hlt
              have hmk := noneN_marks_at ts false (i := k) (by rw [Hlen.out]; exact hlt)
              rw [show ((ts.getD k 0 : Nat) : Int) = zi x by rw [Hts.out, List.getD_eq_getElem?_getD, List.getElem?_map, hx]; rfl] at hmk
              obtain ⟨gm, om, em, hgm, t0⟩ := IntsAt.at_ (H2.out.below hbl) hmk
              injection em with em
              injection em with em1 em2 _
              subst em1
              subst em2
              have hwk : (wayL ((noneN ts false).places.map (·.tok)).length [])[k]? = some 0 := by
                show (List.replicate _ (0 : Int))[k]? = some 0
                rw [List.getElem?_replicate, if_pos (lt_at hmk)]
              obtain ⟨gw, ow, ew, hgw, s0⟩ := IntsAt.at_ (H3.out.below hbl) hwk
              injection ew with ew
              injection ew with ew1 ew2 _
              subst ew1
              subst ew2
              simp only [Nat.zero_add] at t0 s0
              have hzx : 0 ≤ zi x ∧ zi x < 256 := by unfold zi; have := x.toNat_lt; omega
              obtain ⟨z, hz'⟩ : ∃ z, z = zi x := ⟨_, rfl⟩
              rw [← hz'] at f9 t0 hzx
              have hwz : IntKind.i64.wrap z = z := by simp [IntKind.wrap, IntKind.bits, IntKind.signed]; omega
              have Hbl := Lib.hid hbl
              have zb : (z != z) = false := by simp
              have zb2 : (z == z) = true := by simp
              clear hmk hwk hx hz' hbl
              go_wp2
              go_quiet (fail)
              go_wp2
              go_roundw
              case rel => exact ⟨k + 1, by omega, by go_num, Hbl.out.trans ((drewNb _ _).mono Hbl.out.size)⟩
              case measure => simp [intOf]; omega
            · have hge2 : ¬ (k : Int) < (nT : Int) := by omega
              have HF := Lib.hid (Hb6.out.trans (hbl.mono Hb6.out.size))
              clear hbl
              go_wp2
              go_ret
              exact ⟨rfl, HF.out⟩
        | true =>
          obtain rfl : nT = 0 := by
            have : ¬ 0 < nT := fun e => hc ⟨rfl, e⟩
            omega
          have Hrun := Lib.hid (run_any (w := v1) (h := hz) (n := noneN ts true) (by rw [show (noneN ts true).places.length = ts.length from nonePls_len _ _, Hlen.out]) HNT hnet (fun s hs => by rw [noneN_names] at hs; have := noneNames_size _ _ s hs; omega) (noneN_check true Hlt.out (by rw [Hlen.out]; omega)))
          rw [noneN_run true Hlt.out hz] at Hrun
          have HWb := Lib.hid hWb
          clear hnet hWb HNT
          go_wp2_with fail
          refine Hrun.out.mono ?_
          rintro e w5 ⟨al, nl, cl, bm, cm, bw, nw, rfl, hnl, hnw, ⟨r1, r2, r3⟩, hb5⟩
          obtain rfl : nl = 0 := hnl
          have hnw2 := hnw.symm
          clear hnw
          subst hnw2
          simp only [resV]
          have Hb5 := Lib.hid (HWb.out.trans (hb5.mono HWb.out.size))
          have R2 := Lib.hid r2
          have R3 := Lib.hid r3
          have hbox : Below w5.heap.size w5 (w5.alloc (.cells #[.slice al 0 cl, .slice (some ⟨bm, 0, none⟩) 0 cm, .slice (some ⟨bw, 0, none⟩) 0 0, .int .i64 0] 36)) := (Below.refl _ _).alloc (Nat.le_refl _) _
          have h2 : IntsAt w5 (.slice (some ⟨bm, 0, none⟩) 0 cm) ((noneN ts true).places.map (·.tok)) := r2
          have h3 : IntsAt w5 (.slice (some ⟨bw, 0, none⟩) 0 0) (wayL ((noneN ts true).places.map (·.tok)).length []) := r3
          have H2 := Lib.hid (h2.below hbox)
          have H3 := Lib.hid (h3.below hbox)
          have p1 : (w5.alloc (.cells #[.slice al 0 cl, .slice (some ⟨bm, 0, none⟩) 0 cm, .slice (some ⟨bw, 0, none⟩) 0 0, .int .i64 0] 36)).cell? ⟨w5.heap.size, 1, none⟩ = some (.slice (some ⟨bm, 0, none⟩) 0 cm) := by go_simp
          have p2 : (w5.alloc (.cells #[.slice al 0 cl, .slice (some ⟨bm, 0, none⟩) 0 cm, .slice (some ⟨bw, 0, none⟩) 0 0, .int .i64 0] 36)).cell? ⟨w5.heap.size, 2, none⟩ = some (.slice (some ⟨bw, 0, none⟩) 0 0) := by go_simp
          have hp : w5.heap.size < (w5.alloc (.cells #[.slice al 0 cl, .slice (some ⟨bm, 0, none⟩) 0 cm, .slice (some ⟨bw, 0, none⟩) 0 0, .int .i64 0] 36)).heap.size := by simp
          have Hp := Lib.hid (And.intro p1 (And.intro p2 hp))
          have Hb6 := Lib.hid (Hb5.out.trans (hbox.mono Hb5.out.size))
          clear h2 h3 r1 r2 r3 hb5 hbox p1 p2 hp Hrun R2 R3 hc
          go_wp2
          go_loopw [11] (fun i wr => ∃ k : Nat, k ≤ 0 ∧ i = .int .i64 k ∧ Below (w5.alloc (.cells #[.slice al 0 cl, .slice (some ⟨bm, 0, none⟩) 0 cm, .slice (some ⟨bw, 0, none⟩) 0 0, .int .i64 0] 36)).heap.size (w5.alloc (.cells #[.slice al 0 cl, .slice (some ⟨bm, 0, none⟩) 0 cm, .slice (some ⟨bw, 0, none⟩) 0 0, .int .i64 0] 36)) wr) (fun i _ => 0 - (intOf i).toNat)
          case atStart => exact ⟨0, by omega, rfl, Below.refl _ _⟩
          case round =>
            rename World => v5
            obtain ⟨k, hk, rfl, hbl⟩ := hrel
            have q1 := (below_cells hbl w5.heap.size 1 Hp.out.2.2).trans Hp.out.1
            have q2 := (below_cells hbl w5.heap.size 2 Hp.out.2.2).trans Hp.out.2.1
            have q3 : w5.heap.size < v5.heap.size := Nat.lt_of_lt_of_le Hp.out.2.2 hbl.size
            by_cases hlt : k < 0
            · have hlti : (k : Int) < (0 : Int) := by omega
              obtain ⟨b, off, x, rfl, hbw1, hx, _, f9⟩ := (H.out.below (Hb6.out.trans (hbl.mono Hb6.out.size))).at_ hlt
              have hmk := noneN_marks_at ts true (i := k) (by rw [Hlen.out]; exact hlt)
              rw [show ((ts.getD k 0 : Nat) : Int) = zi x by rw [Hts.out, List.getD_eq_getElem?_getD, List.getElem?_map, hx]; rfl] at hmk
              obtain ⟨gm, om, em, hgm, t0⟩ := IntsAt.at_ (H2.out.below hbl) hmk
              injection em with em
              injection em with em1 em2 _
              subst em1
              subst em2
              have hwk : (wayL ((noneN ts true).places.map (·.tok)).length [])[k]? = some 0 := by
                show (List.replicate _ (0 : Int))[k]? = some 0
                rw [List.getElem?_replicate, if_pos (lt_at hmk)]
              obtain ⟨gw, ow, ew, hgw, s0⟩ := IntsAt.at_ (H3.out.below hbl) hwk
              injection ew with ew
              injection ew with ew1 ew2 _
              subst ew1
              subst ew2
              simp only [Nat.zero_add] at t0 s0
              have hzx : 0 ≤ zi x ∧ zi x < 256 := by unfold zi; have := x.toNat_lt; omega
              obtain ⟨z, hz'⟩ : ∃ z, z = zi x := ⟨_, rfl⟩
              rw [← hz'] at f9 t0 hzx
              have hwz : IntKind.i64.wrap z = z := by simp [IntKind.wrap, IntKind.bits, IntKind.signed]; omega
              have Hbl := Lib.hid hbl
              have zb : (z != z) = false := by simp
              have zb2 : (z == z) = true := by simp
              clear hmk hwk hx hz' hbl
              go_wp2
              go_quiet (fail)
              go_wp2
              go_roundw
              case rel => exact ⟨k + 1, by omega, by go_num, Hbl.out.trans ((drewNb _ _).mono Hbl.out.size)⟩
              case measure => simp [intOf]; omega
            · have hge2 : ¬ (k : Int) < (0 : Int) := by omega
              have HF := Lib.hid (Hb6.out.trans (hbl.mono Hb6.out.size))
              clear hbl
              go_wp2
              go_ret
              exact ⟨rfl, HF.out⟩

theorem none_law {w : World} {aT : Option Addr} {nT cT : Nat} {hz : Int} {nv : Bool} {l : List UInt8} (h : BytesAt w aT nT l) :
    Calls Try.prog 5 #[.slice aT nT cT, .int .i64 hz, .bool nv] w fun e w' => e = .returned (.bool true) ∧ Below w.heap.size w w' := by
  by_cases h20 : nT ≤ 20
  · exact none_small h h20
  · exact none_big (by omega)
end Go.Proofs.Ytpfdmmidomofdaa
