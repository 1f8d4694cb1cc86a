/- Symbols: names and texts, the program's. -/
import Derived.Test.YtbpdhpfcknaaiaaDoorZSkip
set_option linter.unusedSimpArgs false
set_option linter.unusedVariables false
namespace Go.Proofs.YtbpdhpfcknaaiaaDoor
open Go.RowKit M

/-- A symbol as a value. -/
def tokV (s : ByteArray) (x : Tk) : Value := .agg #[.int .i64 (x.kind : Nat), .int .i64 (x.pos : Nat), .int .i64 (x.fin : Nat), .string (s.extract x.a x.b), .int .i32 x.num]
def noTok : Value := .agg #[.int .i64 0, .int .i64 0, .int .i64 0, .string ⟨#[]⟩, .int .i32 0]
/-- What a symbol's function tells. -/
def symV (s : ByteArray) : Except Nat Tk → Value
  | .ok x => .tuple #[tokV s x, .int .i64 0]
  | .error e => .tuple #[noTok, .int .i64 (e : Nat)]
theorem retSym {s : ByteArray} {r r' : Except Nat Tk} (h : r = r') : Ending.returned (symV s r) = .returned (symV s r') := by rw [h]


theorem results_row_tmp {P : Program} {fn : Func} {p q : Tmp} {ty : TypeId} (h : fn.results = #[.cell p ty, .tmp q]) (tmps : Array Value) (w : World) (g : Nat) (t : TypeId) (cs : Array Value) (fr : Nat × Nat) (d : TypeDesc) (u : Value)
    (hp : tmps.getD p undef = .pointer (some ⟨g, 0, none⟩)) (hq : tmps.getD q undef = u) (hg : w.heap[g]? = some (.cells cs t fr))
    (hu : P.underlying ty = some d) (hd : (match d with | .struct _ | .array _ _ => true | _ => false) = true) (hi : (P.info? ty).map (·.size) = some cs.size) :
    (results fn tmps).run P w = .ok (.tuple #[.agg cs, u]) w := by
  have hp' : tmps[p]?.getD undef = .pointer (some ⟨g, 0, none⟩) := by simpa using hp
  have hq' : tmps[q]?.getD undef = u := by simpa using hq
  simp [results, h, hp', hq', asAddr, run_loadVar_row w g t ty cs fr d hg hu hd hi]

/-- The cells of a symbol. -/
def tokC (s : ByteArray) (x : Tk) : Array Value := #[.int .i64 (x.kind : Nat), .int .i64 (x.pos : Nat), .int .i64 (x.fin : Nat), .string (s.extract x.a x.b), .int .i32 x.num]
def noC : Array Value := #[.int .i64 0, .int .i64 0, .int .i64 0, .string ⟨#[]⟩, .int .i32 0]
theorem M.Blk.five {w : World} {b : Nat} {t : TypeId} {c0 c1 c2 c3 c4 : Value} (h : Blk w b #[c0, c1, c2, c3, c4] t) :
    (w.cell? ⟨b, 0, none⟩ = some c0 ∧ w.cell? ⟨b, 1, none⟩ = some c1 ∧ w.cell? ⟨b, 2, none⟩ = some c2 ∧ w.cell? ⟨b, 3, none⟩ = some c3 ∧ w.cell? ⟨b, 4, none⟩ = some c4) ∧
    (w.frozen? ⟨b, 0, none⟩ = false ∧ w.frozen? ⟨b, 1, none⟩ = false ∧ w.frozen? ⟨b, 2, none⟩ = false ∧ w.frozen? ⟨b, 3, none⟩ = false ∧ w.frozen? ⟨b, 4, none⟩ = false) :=
  ⟨⟨h.cell 0, h.cell 1, h.cell 2, h.cell 3, h.cell 4⟩, h.free 0, h.free 1, h.free 2, h.free 3, h.free 4⟩
def set5 (w : World) (b : Nat) (v0 v1 v2 v3 v4 : Value) : World := ((((w.setCell ⟨b, 0, none⟩ v0).setCell ⟨b, 1, none⟩ v1).setCell ⟨b, 2, none⟩ v2).setCell ⟨b, 3, none⟩ v3).setCell ⟨b, 4, none⟩ v4
theorem M.Blk.put5 {w : World} {b : Nat} {t : TypeId} {c0 c1 c2 c3 c4 : Value} (h : Blk w b #[c0, c1, c2, c3, c4] t) (v0 v1 v2 v3 v4 : Value) : Blk (set5 w b v0 v1 v2 v3 v4) b #[v0, v1, v2, v3, v4] t := by
  have := ((((h.setCell 0 v0).setCell 1 v1).setCell 2 v2).setCell 3 v3).setCell 4 v4
  simp only [List.setIfInBounds_toArray, List.set_cons_zero, List.set_cons_succ] at this
  exact this
theorem M.Only.put5 {S : Nat → Prop} {a w : World} (h : Only S a w) {b : Nat} (hb : a.heap.size ≤ b) (v0 v1 v2 v3 v4 : Value) : Only S a (set5 w b v0 v1 v2 v3 v4) := by
  have hq : b < a.heap.size → S b := fun h => absurd h (by omega)
  exact ((((h.setCell (p := ⟨b, 0, none⟩) hq v0).setCell (p := ⟨b, 1, none⟩) hq v1).setCell (p := ⟨b, 2, none⟩) hq v2).setCell (p := ⟨b, 3, none⟩) hq v3).setCell (p := ⟨b, 4, none⟩) hq v4
theorem retTok {s : ByteArray} {r : Except Nat Tk} {x : Tk} (h : r = .ok x) : Ending.returned (.tuple #[.agg (tokC s x), .int .i64 0]) = .returned (symV s r) := by rw [h]; rfl
theorem retNo {s : ByteArray} {r : Except Nat Tk} {e : Nat} (h : r = .error e) : Ending.returned (.tuple #[.agg noC, .int .i64 (e : Nat)]) = .returned (symV s r) := by rw [h]; rfl

set_option maxRecDepth 10000 in
set_option maxHeartbeats 1600000 in
theorem name_any (s : ByteArray) (n : Nat) (hn : s.size = n) (h0 : 0 < n) (hb : n ≤ 1000000) (hl : letB (bt s 0) = true) (w : World) :
    Calls Tryd.prog 33 #[.string s] w fun e w' => e = .returned (symV s (namS (tx s) 0)) ∧ Only Nil w w' := by
  have e1 : (tx s).n = n := hn
  have hE : worEnd (tx s) 0 = upto (fun j => worB (bt s j)) (n - 1) 1 := by
    rw [worEnd_gt (tx s) 0 (by omega) hl, e1]; rfl
  obtain ⟨E, hEE⟩ : ∃ E, worEnd (tx s) 0 = E := ⟨_, rfl⟩
  have hEn : E ≤ n := by have := worEnd_le (tx s) 0 (by omega); omega
  rw [hEE] at hE
  have hR : namS (tx s) 0 = if 32 < E then .error 34 else .ok ⟨1, 0, E, 0, E, 0⟩ := by unfold namS; rw [hEE]; rfl
  rw [hR]
  have HE := Lib.hid hE
  clear hE hEE hR e1 hl
  go_enter Tryd.func33, Tryd.ntmps33
  go_wp2_with fail
  have hB0 := Blk.new w #[Value.int .i64 0, .int .i64 0, .int .i64 0, .string ⟨#[]⟩, .int .i32 0] 35
  have ho0 : Only Nil w (w.alloc (.cells #[Value.int .i64 0, .int .i64 0, .int .i64 0, .string ⟨#[]⟩, .int .i32 0] 35)) := (Only.refl _ _).alloc _
  obtain ⟨w1, hw1⟩ : ∃ w1, w.alloc (.cells #[Value.int .i64 0, .int .i64 0, .int .i64 0, .string ⟨#[]⟩, .int .i32 0] 35) = w1 := ⟨_, rfl⟩
  rw [hw1] at hB0 ho0 ⊢
  obtain ⟨rb, hrb⟩ : ∃ rb, w.heap.size = rb := ⟨_, rfl⟩
  rw [hrb] at hB0 ⊢
  clear hw1
  go_loopg [4] (n - 1) (fun g i wr => wr = w1 ∧ ∃ (j : Nat), i = .int .i64 (j : Int) ∧ 1 ≤ j ∧ j ≤ n ∧ g = n - j ∧ upto (fun j => worB (bt s j)) g j = E)
  case atStart => exact ⟨rfl, 1, rfl, by omega, by omega, rfl, HE.out.symm⟩
  case round =>
    obtain ⟨rfl, j, rfl, hj1, hj, hg, hc⟩ := hrel
    have HG := Lib.hid hg
    have HO := Lib.hid ho0
    obtain ⟨⟨z0, z1, z2, z3, z4⟩, y0, y1, y2, y3, y4⟩ := hB0.five
    clear hg HE ho0
    have j0 : (0 : Int) ≤ (j : Int) := Int.natCast_nonneg _
    by_cases hjn : j < n
    · have j1 : (j : Int) < (n : Int) := by omega
      have ix := fun w => ix_at s n j hn hjn w
      have cL := fun w => isLetter_any (bt s j) w
      have cD := fun w => isDigit_any (bt s j) w
      obtain ⟨g, rfl⟩ : ∃ g', gk = g' + 1 := ⟨gk - 1, by have := HG.out; omega⟩
      rw [upto] at hc
      obtain ⟨q, hq⟩ : ∃ q, letB (bt s j) = q := ⟨_, rfl⟩
      obtain ⟨r, hr⟩ : ∃ r, digB (bt s j) = r := ⟨_, rfl⟩
      have hw : worB (bt s j) = (q || r) := by unfold worB; rw [hq, hr]
      rw [hw] at hc
      rw [hq] at cL
      rw [hr] at cD
      clear hq hr hw
      cases q <;> cases r
      · simp only [Bool.or_self, Bool.false_eq_true, if_false] at hc
        subst hc
        by_cases hE : 32 < j
        · have hE' : (32 : Int) < (j : Int) := by omega
          go_wp2_with (first | (go_at_call 32; refine (cL _).mono ?_; rintro e w1 ⟨rfl, rfl⟩) | (go_at_call 34; refine (cD _).mono ?_; rintro e w1 ⟨rfl, rfl⟩))
          refine bodyPost_ret (results_row_tmp rfl _ _ rb 35 _ (0, 0) _ _ rfl rfl (hB0.put5 _ _ _ _ _) Tryd.underlying35 rfl (by kernel_rfl)) rfl ?_
          exact ⟨retNo (s := s) (e := 34) (by first | rfl | exact if_pos hE), HO.out.put5 (Nat.le_of_eq hrb) _ _ _ _ _⟩
        · have hE' : ¬ (32 : Int) < (j : Int) := by omega
          go_wp2_with (first | (go_at_call 32; refine (cL _).mono ?_; rintro e w1 ⟨rfl, rfl⟩) | (go_at_call 34; refine (cD _).mono ?_; rintro e w1 ⟨rfl, rfl⟩))
          refine bodyPost_ret (results_row_tmp rfl _ _ rb 35 _ (0, 0) _ _ rfl rfl (hB0.put5 _ _ _ _ _) Tryd.underlying35 rfl (by kernel_rfl)) rfl ?_
          exact ⟨retTok (s := s) (x := ⟨1, 0, j, 0, j, 0⟩) (by first | rfl | exact if_neg hE), HO.out.put5 (Nat.le_of_eq hrb) _ _ _ _ _⟩
      all_goals
        simp only [Bool.or_self, Bool.or_true, Bool.true_or, if_true] at hc
        have HC := Lib.hid hc
        clear hc
        go_wp2_with (first | (go_at_call 32; refine (cL _).mono ?_; rintro e w1 ⟨rfl, rfl⟩) | (go_at_call 34; refine (cD _).mono ?_; rintro e w1 ⟨rfl, rfl⟩))
        go_roundg g
        case measure => exact Nat.lt_succ_self _
        case rel => exact ⟨rfl, j + 1, by go_num, by omega, by omega, by have := HG.out; omega, HC.out⟩
    · have hjn' : j = n := by omega
      subst hjn'
      have hg0 : gk = 0 := by have := HG.out; omega
      subst hg0
      have hc' : j = E := hc
      subst hc'
      clear hc
      by_cases hE : 32 < j
      · have hE' : (32 : Int) < (j : Int) := by omega
        go_wp2_with fail
        refine bodyPost_ret (results_row_tmp rfl _ _ rb 35 _ (0, 0) _ _ rfl rfl (hB0.put5 _ _ _ _ _) Tryd.underlying35 rfl (by kernel_rfl)) rfl ?_
        exact ⟨retNo (s := s) (e := 34) (by first | rfl | exact if_pos hE), HO.out.put5 (Nat.le_of_eq hrb) _ _ _ _ _⟩
      · have hE' : ¬ (32 : Int) < (j : Int) := by omega
        go_wp2_with fail
        refine bodyPost_ret (results_row_tmp rfl _ _ rb 35 _ (0, 0) _ _ rfl rfl (hB0.put5 _ _ _ _ _) Tryd.underlying35 rfl (by kernel_rfl)) rfl ?_
        exact ⟨retTok (s := s) (x := ⟨1, 0, j, 0, j, 0⟩) (by first | rfl | exact if_neg hE), HO.out.put5 (Nat.le_of_eq hrb) _ _ _ _ _⟩
end Go.Proofs.YtbpdhpfcknaaiaaDoor
