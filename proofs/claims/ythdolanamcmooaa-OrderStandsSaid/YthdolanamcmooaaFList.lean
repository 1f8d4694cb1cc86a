/- Layer 19: the list in memory; its functions. -/
import Derived.Test.YthdolanamcmooaaGInts
import Derived.Test.YthdolanamcmooaaFMath
import Derived.Laws.CopyRow
import Derived.Lib.SliceRun
import Derived.Deep.RegionLaw
set_option linter.unusedSimpArgs false
set_option linter.unusedVariables false
namespace Go.Proofs.Ythdolanamcmooaa
open Go.RowKit M

/-- A list at b, its numbers at lb. -/
structure LAt (w : World) (b lb : Nat) (L : List Int) : Prop where
  blk : Blk w b #[.slice (some ⟨lb, 0, none⟩) L.length L.length] 136
  num : Blk w lb (Ints L).toArray 3
  ne : b ≠ lb
theorem LAt.kept {S : Nat → Prop} {w w' : World} {b lb : Nat} {L : List Int} (h : LAt w b lb L) (ho : Only S w w') (h1 : ¬ S b) (h2 : ¬ S lb) : LAt w' b lb L :=
  ⟨h.blk.kept ho h1, h.num.kept ho h2, h.ne⟩
theorem LAt.nil {w w' : World} {b lb : Nat} {L : List Int} (h : LAt w b lb L) (ho : Only Nil w w') : LAt w' b lb L := h.kept ho (fun h => h) (fun h => h)

theorem step_copy_known {P : Program} {w w' : World} {ops : Array Oper} {o : Oper} {a : Act} {K : Act → World → Prop} {Q : Exit → Act → World → Prop} {E : Prop} (hgd : o.guard = none) (d x : Operand) (t u : TypeId)
    (ho : o.op = .call { callee := .builtin .copy, args := #[d, x], argTypes := #[t, u] }) (dv xv v : Value) (hd : a.eval d = dv) (hx : a.eval x = xv)
    (hrun : (Builtin.copy_ #[t, u] o.type #[dv, xv]).run P w = .ok v w') (h : K (a.put o.dst v) w') :
    if Region.wanted o (yielded ops a.tmps) = true then Oper.wp P o a w K Q else E := by
  have hw : Region.wanted o (yielded ops a.tmps) = true := by simp [Region.wanted, hgd]
  rw [if_pos hw]
  unfold Oper.wp execOp
  simp only [ho, resolve, invoke, builtin, Sem.run_bind, Sem.run_pure, Result.andThen_ok, List.map_toArray, List.map_cons, List.map_nil, hd, hx, hrun]
  exact h
theorem setRow_blk {w : World} {b : Nat} {cs cs' : Array Value} {t : TypeId} (h : Blk w b cs t) : Blk (w.setRow b cs') b cs' t ∧ Only (M.One b) w (w.setRow b cs') := by
  have hlt := h.lt
  unfold Blk at h ⊢
  have h1 := setRow_heap w b cs cs' t (0, 0) h
  refine ⟨h1, ⟨rfl, rfl, rfl, ?_, fun k hk hne => ?_⟩⟩
  · simp [World.setRow]
  · simp only [World.setRow, Array.getElem?_modify]
    rw [if_neg (fun e => hne (show k = b from e.symm))]
theorem shifted_front (L : List Int) (i : Nat) (h : i < L.length) : (L.take 1 ++ L.take i ++ L.drop (1 + i)).set 0 (L.getD i 0) = front L i := by
  obtain ⟨x, L, rfl⟩ : ∃ x M, L = x :: M := by cases L with | nil => simp at h | cons x M => exact ⟨x, M, rfl⟩
  simp [front, Nat.add_comm 1 i]
theorem shifted_len (L : List Int) (i : Nat) (h : i < L.length) : (L.take 1 ++ L.take i ++ L.drop (1 + i)).length = L.length := by
  simp only [List.length_append, List.length_take, List.length_drop]; omega

set_option maxRecDepth 10000 in
set_option maxHeartbeats 1600000 in
theorem first_any (b lb i : Nat) (L : List Int) (w : World) (hM : LAt w b lb L) (hl : L.length ≤ 65536) (hi : i < L.length) :
    Calls Try.prog 76 #[.pointer (some ⟨b, 0, none⟩), .int .i64 i] w fun e w' => e = .returned (.tuple #[]) ∧ Only (M.One lb) w w' ∧ LAt w' b lb (front L i) := by
  obtain ⟨n, hn⟩ : ∃ n, L.length = n := ⟨_, rfl⟩
  have c0 : w.cell? ⟨b, 0, none⟩ = some (.slice (some ⟨lb, 0, none⟩) n n) := by rw [← hn]; exact hM.blk.cell 0
  have hlt := hM.blk.lt
  have hlt2 := hM.num.lt
  have ci := (hM.num.cell i).trans (Ints_get hi)
  obtain ⟨x, hx⟩ : ∃ x, L.getD i 0 = x := ⟨_, rfl⟩
  rw [hx] at ci
  rw [hn] at hl hi
  have hBw := hM.num.drew
  obtain ⟨pa, hpa⟩ : ∃ pa, i + 1 = pa := ⟨_, rfl⟩
  obtain ⟨o1, ho1, hop⟩ : ∃ o1, (if n = 1 then some (⟨lb, 0, none⟩ : Addr) else some ⟨lb, 1, none⟩) = some ⟨lb, o1, none⟩ ∧ (o1 = 1 ∨ (i = 0 ∧ o1 = 0)) := by
    by_cases e : n = 1
    · exact ⟨0, by rw [if_pos e], Or.inr ⟨by omega, rfl⟩⟩
    · exact ⟨1, by rw [if_neg e], Or.inl rfl⟩
  have hcp : ∀ ty, (Builtin.copy_ #[38, 38] ty #[.slice (some ⟨lb, o1, none⟩) (pa - 1) (n - 1), .slice (some ⟨lb, 0, none⟩) i n]).run Try.prog w.drew = .ok (goInt i) (w.drew.setRow lb (Ints (L.take 1 ++ L.take i ++ L.drop (1 + i))).toArray) := by
    intro ty
    rw [show pa - 1 = i by omega]
    have hc := run_copy_row (P := Try.prog) w.drew 38 38 ty 3 lb o1 i (n - 1) ⟨lb, 0, none⟩ i n (Ints L).toArray 3 (Ints (L.take i)) Try.underlying38 (by kernel_rfl) hBw
      (by rw [Ints_len, List.length_take]; show min i L.length = min i i; omega)
      (fun j v hj => by
        have hjl := (List.getElem?_eq_some_iff.1 hj).1
        rw [Ints_len, List.length_take] at hjl
        rw [M.addr_add, hBw.cell, List.getElem?_toArray, Nat.zero_add]
        rw [← hj]
        simp [Ints, List.getElem?_take, show j < i by omega])
      (by rw [Ints_len, List.length_take]; simp only [List.size_toArray, Ints_len]; omega) (Ints_one _)
    rw [hc]
    have e3 : (Ints (L.take i)).length = i := by rw [Ints_len, List.length_take]; omega
    rw [e3]
    congr 3
    rcases hop with rfl | ⟨rfl, rfl⟩
    · simp [Ints, List.map_append, List.map_take, List.map_drop]
    · cases L <;> simp [Ints]
  have hrow := setRow_blk (cs' := (Ints (L.take 1 ++ L.take i ++ L.drop (1 + i))).toArray) hBw
  have sl := shifted_len L i (by omega)
  have sf := shifted_front L i (by omega)
  rw [hx] at sf
  obtain ⟨X, hX⟩ : ∃ X, L.take 1 ++ L.take i ++ L.drop (1 + i) = X := ⟨_, rfl⟩
  rw [hX] at hcp hrow sl sf
  obtain ⟨w2, hw2⟩ : ∃ w2, w.drew.setRow lb (Ints X).toArray = w2 := ⟨_, rfl⟩
  rw [hw2] at hcp hrow
  have ho2 : Only (M.One lb) w w2 := ((Only.refl (M.One lb) w).drew).trans hrow.2 (fun _ _ h => h)
  have hb2 := hM.blk.kept ho2 (fun e => hM.ne e)
  have d0 : w2.cell? ⟨b, 0, none⟩ = some (.slice (some ⟨lb, 0, none⟩) n n) := by rw [← hn]; exact hb2.cell 0
  have l2 := hb2.lt
  have l3 := hrow.1.lt
  have e0 := (hrow.1.cell 0).trans (Ints_get (show 0 < X.length by omega))
  have f0 := hrow.1.free 0
  have hB3 := hrow.1.setCell 0 (.int .i64 x)
  rw [Ints_set, sf] at hB3
  have ho3 : Only (M.One lb) w (w2.setCell ⟨lb, 0, none⟩ (.int .i64 x)) := ho2.setCell' (M.One lb) rfl _
  have hb3 := hM.blk.kept ho3 (fun e => hM.ne e)
  have hfl := front_len L i (by omega)
  have HCP := Lib.hid hcp
  have HR := Lib.hid (show LAt (w2.setCell ⟨lb, 0, none⟩ (.int .i64 x)) b lb (front L i) from ⟨by rw [hfl]; exact hb3, hB3, hM.ne⟩)
  have HO := Lib.hid ho3
  have w1 : IntKind.i64.wrap (pa : Int) = (pa : Int) := by rw [IntKind.wrap_i64]; omega
  have w2' : (i : Int) + 1 = (pa : Int) := by omega
  have w3 : (pa : Int) ≤ (n : Int) := by omega
  have w4 : 1 ≤ pa := by omega
  have w5 : (0 : Int) ≤ (pa : Int) := Int.natCast_nonneg _
  have w6 : (1 : Int) ≤ (pa : Int) := by omega
  have w7 : (1 : Int) ≤ (n : Int) := by omega
  have i0 : (0 : Int) ≤ (i : Int) := Int.natCast_nonneg _
  have i1 : (i : Int) < (n : Int) := by omega
  have i2 : (i : Int) ≤ (n : Int) := by omega
  have n0 : 0 < n := by omega
  clear hM hn hx hcp hrow sl sf hX hw2 ho2 hb2 hB3 ho3 hb3 hfl hBw hpa hop hl hi
  go_enter Try.func76, Try.ntmps76
  go_wp2_with fail
  go_region_law (refine step_copy_known rfl (.tmp 18) (.tmp 24) 38 38 rfl _ _ _ (by simp [Act.eval, Act.put]) (by simp [Act.eval, Act.put]) (HCP.out _) ?_)
  all_goals
    go_wp2_with fail
    go_end0
    exact ⟨rfl, HO.out, HR.out⟩

set_option maxRecDepth 10000 in
set_option maxHeartbeats 1600000 in
theorem newL_any (N : Int) (m : Nat) (hm : m = clampN N) (w : World) :
    Calls Try.prog 36 #[.int .i64 N] w fun e w' => ∃ b lb, e = .returned (.pointer (some ⟨b, 0, none⟩)) ∧ Only Nil w w' ∧ LAt w' b lb (upto m) ∧ w.heap.size ≤ b ∧ w.heap.size ≤ lb := by
  have hm1 := clampN_le N
  have hm2 := clampN_eq N
  rw [← hm] at hm1 hm2
  have mk := fun w => make_int m (by omega) w
  have hX0 : (List.replicate m (0 : Int)).length = m := by simp
  obtain ⟨X0, hX⟩ : ∃ X, List.replicate m (0 : Int) = X := ⟨_, rfl⟩
  rw [hX] at mk hX0
  clear hX hm
  have HU := Lib.hid (upto_len m)
  obtain ⟨N0, hN0⟩ : ∃ N0, (if N < 0 then 0 else N) = N0 := ⟨_, rfl⟩
  have hN1 : (if 65536 < N0 then 65536 else N0) = (m : Int) := by rw [← hm2, ← hN0]; split <;> split <;> omega
  clear hm2
  go_enter Try.func36, Try.ntmps36
  go_wp2_with fail
  have hB0 := Blk.new w (Ints X0).toArray 3
  have ho0 : Only Nil w (w.alloc (.cells (Ints X0).toArray 3)) := (Only.refl _ _).alloc _
  obtain ⟨w1, hw1⟩ : ∃ w1, w.alloc (.cells (Ints X0).toArray 3) = w1 := ⟨_, rfl⟩
  rw [hw1] at hB0 ho0 ⊢
  obtain ⟨rb, hrb⟩ : ∃ rb, w.heap.size = rb := ⟨_, rfl⟩
  rw [hrb] at hB0 ⊢
  have hRB := Lib.hid hrb
  clear mk hw1 hrb hN0 hN1
  go_loopg [11] m (fun g i wr => g ≤ m ∧ i = .int .i64 ((m - g : Nat) : Int) ∧ Only Nil w wr ∧ ∃ X : List Int, X.length = m ∧ (∀ j, j < m - g → X.getD j 0 = (j : Int)) ∧ Blk wr rb (Ints X).toArray 3)
  case atStart => exact ⟨Nat.le_refl _, by simp, ho0, X0, hX0, fun j hj => by omega, hB0⟩
  case round =>
    clear hB0 ho0
    obtain ⟨hg, rfl, ho, X, hXl, hX, hB⟩ := hrel
    obtain ⟨g, rfl⟩ : ∃ g, g = gk := ⟨gk, rfl⟩
    obtain ⟨k, hk⟩ : ∃ k, m - g = k := ⟨_, rfl⟩
    rw [hk] at hX ⊢
    have hkn : k ≤ m := by omega
    have HK := Lib.hid hk
    have HX := Lib.hid hX
    have HL := Lib.hid hXl
    clear hk hX hXl hX0
    have k0 : (0 : Int) ≤ (k : Int) := Int.natCast_nonneg _
    by_cases hkl : k < m
    · have k1 : (k : Int) < (m : Int) := by omega
      have f0 := hB.free k
      have c0 := (hB.cell k).trans (Ints_get (by rw [HL.out]; exact hkl))
      have hB1 := hB.setCell k (.int .i64 k)
      rw [Ints_set] at hB1
      have ho1 : Only Nil w (wr.setCell ⟨rb, k, none⟩ (.int .i64 k)) := ho.setCell (fun h => absurd h (by simp only; have := hRB.out; omega)) _
      have hlt := hB.lt
      have HB1 := Lib.hid hB1
      have HO1 := Lib.hid ho1
      clear hB ho hB1 ho1
      go_wp2_with fail
      go_roundg (g - 1)
      case measure => have := HK.out; omega
      case rel =>
        rw [show m - (g - 1) = k + 1 by have := HK.out; omega]
        refine ⟨by omega, by have := HK.out; go_num, HO1.out, _, by rw [List.length_set]; exact HL.out, fun j hj => ?_, HB1.out⟩
        by_cases hjk : j = k
        · subst hjk
          simp [List.getD, HL.out, hkl]
        · have := HX.out j (by omega)
          rw [← this]
          simp [List.getD, List.getElem?_set, show ¬ k = j by omega]
    · have hkl2 : (m : Int) ≤ (k : Int) := by omega
      have hlt := hB.lt
      have e : X = upto m := same_all (by rw [HL.out, HU.out]) (fun j hj => by
        rw [HL.out] at hj
        rw [HX.out j (by omega), upto_get m j hj])
      have HE := Lib.hid e
      clear e
      go_wp2_with fail
      go_ret
      refine ⟨_, rb, rfl, ho.alloc _, ⟨?_, ?_, by omega⟩, ?_, ?_⟩
      · have := Blk.new wr #[.slice (some ⟨rb, 0, none⟩) m m] 136
        rw [HU.out]
        exact this
      · rw [← HE.out]; exact hB.alloc _
      · have := ho.size; exact this
      · exact Nat.le_of_eq hRB.out

/-- Where a number stands, as the program tells it. -/
def posI (n k : Nat) : Int := if k < n then (k : Int) else -1

set_option maxRecDepth 10000 in
set_option maxHeartbeats 1600000 in
theorem index_any (b : Nat) (L : List Int) (x : Int) (s : Value) (w : World) (hs : Src w b s (Ints L)) (hl : L.length ≤ 1000000) :
    Calls Try.prog 77 #[s, .int .i64 x] w fun e w' => e = .returned (.int .i64 (posI L.length (posN L x))) ∧ w = w' := by
  obtain ⟨ao, cap, off, rfl, p2, p3, p4⟩ := hs
  rw [Ints_len] at p2
  rw [Ints_len]
  obtain ⟨n, hn⟩ : ∃ n, L.length = n := ⟨_, rfl⟩
  rw [hn] at p2 hl ⊢
  have HN := Lib.hid hn
  have H1 := Lib.hid p4
  have G1 := Lib.hid p2
  obtain ⟨R, hR⟩ : ∃ R, posI n (posN L x) = R := ⟨_, rfl⟩
  rw [hR]
  have HR := Lib.hid hR
  clear hn p4 p3 p2 hR
  go_enter Try.func77, Try.ntmps77
  go_wp2_with fail
  go_loopg [8] n (fun g i wr => wr = w ∧ g ≤ n ∧ i = .int .i64 ((n - g : Nat) : Int) ∧ ∀ j, j < n - g → L.getD j 0 ≠ x)
  case atStart => exact ⟨rfl, Nat.le_refl _, by simp, fun j hj => by omega⟩
  case round =>
    obtain ⟨rfl, hm, rfl, hX⟩ := hrel
    obtain ⟨g, rfl⟩ : ∃ g, g = gk := ⟨gk, rfl⟩
    obtain ⟨k, hk⟩ : ∃ k, n - g = k := ⟨_, rfl⟩
    rw [hk] at hX ⊢
    have hkn : k ≤ n := by omega
    have HK := Lib.hid hk
    have HX := Lib.hid hX
    clear hk hX
    have k0 : (0 : Int) ≤ (k : Int) := Int.natCast_nonneg _
    by_cases hkl : k < n
    · have k1 : (k : Int) < (n : Int) := by omega
      have i1 := Ints_at (X := L) (k := k) (by rw [HN.out]; exact hkl)
      obtain ⟨y, hy⟩ : ∃ y, L.getD k 0 = y := ⟨_, rfl⟩
      rw [hy] at i1
      have e1 := G1.out (by omega)
      subst e1
      have t1 := H1.out k _ i1
      have HY := Lib.hid hy
      clear hy i1
      by_cases hyz : y = x
      · subst hyz
        have e3 : ((y : Int) == y) = true := by simp
        have hF : R = (k : Int) := by
          rw [← HR.out, posN_eq L y k (by rw [HN.out]; exact hkl) HY.out HX.out]; unfold posI; rw [if_pos hkl]
        have HF := Lib.hid hF
        clear hF
        go_wp2_with fail
        go_ret
        exact ⟨by rw [HF.out]; rfl, rfl⟩
      · have e3 : ((x : Int) == y) = false := by simpa using (fun h => hyz h.symm)
        have HNE := Lib.hid hyz
        clear hyz
        go_wp2_with fail
        go_roundg (g - 1)
        case measure => have := HK.out; omega
        case rel =>
          rw [show n - (g - 1) = k + 1 by have := HK.out; omega]
          refine ⟨rfl, by omega, by have := HK.out; go_num, fun j hj => ?_⟩
          by_cases hjk : j = k
          · subst hjk; rw [HY.out]; exact HNE.out
          · exact HX.out j (by omega)
    · have hF : R = -1 := by
        rw [← HR.out, posN_none L x (fun j hj => HX.out j (by rw [HN.out] at hj; omega)), HN.out]; unfold posI; rw [if_neg (by omega)]
      subst hF
      have hkl2 : (n : Int) ≤ (k : Int) := by omega
      go_wp2_with fail
      go_ret
      exact ⟨rfl, rfl⟩
/-- What Rank tells. -/
def rankV (n k : Nat) : Value := if k < n then .tuple #[.int .i64 (k : Int), .bool true] else .tuple #[.int .i64 0, .bool false]

set_option maxRecDepth 10000 in
set_option maxHeartbeats 1600000 in
theorem rank_any (b lb : Nat) (L : List Int) (x : Int) (w : World) (hM : LAt w b lb L) (hl : L.length ≤ 65536) :
    Calls Try.prog 40 #[.pointer (some ⟨b, 0, none⟩), .int .i64 x] w fun e w' => e = .returned (rankV L.length (posN L x)) ∧ Only (M.One lb) w w' ∧ LAt w' b lb (if posN L x < L.length then front L (posN L x) else L) := by
  have c0 : w.cell? ⟨b, 0, none⟩ = some (.slice (some ⟨lb, 0, none⟩) L.length L.length) := hM.blk.cell 0
  have hlt := hM.blk.lt
  have hs := src_of_blk hM.num
  rw [Ints_len] at hs
  have cI := index_any lb L x _ w hs (by omega)
  obtain ⟨k, hk⟩ : ∃ k, posN L x = k := ⟨_, rfl⟩
  have hkl := posN_le L x
  rw [hk] at cI hkl ⊢
  by_cases h : k < L.length
  · have cF := first_any b lb k L w hM hl h
    rw [if_pos h]
    unfold posI at cI
    rw [if_pos h] at cI
    unfold rankV
    rw [if_pos h]
    obtain ⟨n, hn⟩ : ∃ n, L.length = n := ⟨_, rfl⟩
    rw [hn] at c0 cI hl h
    have k0 : (0 : Int) ≤ (k : Int) := Int.natCast_nonneg _
    clear hM hs hk hkl hn
    go_enter Try.func40, Try.ntmps40
    go_wp2_with fail
    refine cI.mono ?_
    rintro e w1 ⟨rfl, rfl⟩
    go_wp2_with fail
    refine cF.mono ?_
    rintro e w1 ⟨rfl, ho, hL⟩
    have HL := Lib.hid hL
    have HO := Lib.hid ho
    clear hL ho cI cF
    go_wp2_with fail
    go_ret2
    exact ⟨rfl, HO.out, HL.out⟩
  · rw [if_neg h]
    unfold posI at cI
    rw [if_neg h] at cI
    unfold rankV
    rw [if_neg h]
    obtain ⟨n, hn⟩ : ∃ n, L.length = n := ⟨_, rfl⟩
    rw [hn] at c0 cI hl
    have HM := Lib.hid hM
    clear hM hs hk hkl hn h
    go_enter Try.func40, Try.ntmps40
    go_wp2_with fail
    refine cI.mono ?_
    rintro e w1 ⟨rfl, rfl⟩
    go_wp2_with fail
    go_ret2
    exact ⟨rfl, Only.refl _ _, HM.out⟩
/-- What At tells: of a place in the list. -/
theorem at_in (b lb k : Nat) (L : List Int) (w : World) (hM : LAt w b lb L) (hl : L.length ≤ 65536) (hk : k < L.length) :
    Calls Try.prog 38 #[.pointer (some ⟨b, 0, none⟩), .int .i64 k] w fun e w' => e = .returned (.tuple #[.int .i64 (L.getD k 0), .bool true]) ∧ Only (M.One lb) w w' ∧ LAt w' b lb (front L k) := by
  have c0 : w.cell? ⟨b, 0, none⟩ = some (.slice (some ⟨lb, 0, none⟩) L.length L.length) := hM.blk.cell 0
  have hlt := hM.blk.lt
  have cF := first_any b lb k L w hM hl hk
  have hfl := front_len L k hk
  have hf0 := front_get0 L k
  obtain ⟨x, hx⟩ : ∃ x, L.getD k 0 = x := ⟨_, rfl⟩
  rw [hx] at hf0 ⊢
  obtain ⟨n, hn⟩ : ∃ n, L.length = n := ⟨_, rfl⟩
  rw [hn] at c0 hl hk hfl
  have k0 : (0 : Int) ≤ (k : Int) := Int.natCast_nonneg _
  have k1 : (k : Int) < (n : Int) := by omega
  have k2 : decide ((k : Int) < 0) = false := by simp
  have HFL := Lib.hid hfl
  have HF0 := Lib.hid hf0
  have n0 : 0 < n := by omega
  clear hM hn hx hfl hf0
  go_enter Try.func38, Try.ntmps38
  go_wp2_with fail
  refine cF.mono ?_
  rintro e w1 ⟨rfl, ho, hL⟩
  have d0 : w1.cell? ⟨b, 0, none⟩ = some (.slice (some ⟨lb, 0, none⟩) n n) := by rw [← HFL.out]; exact hL.blk.cell 0
  have d1 := (hL.num.cell 0).trans (Ints_get (show 0 < (front L k).length by rw [HFL.out]; exact n0))
  rw [HF0.out] at d1
  have hlt1 := hL.blk.lt
  have hlt2 := hL.num.lt
  have HL := Lib.hid hL
  have HO := Lib.hid ho
  clear hL ho cF c0
  go_wp2_with fail
  go_ret2
  exact ⟨rfl, HO.out, HL.out⟩
theorem at_out (b lb : Nat) (x : Int) (L : List Int) (w : World) (hM : LAt w b lb L) (hl : L.length ≤ 65536) (hk : ¬ (0 ≤ x ∧ x < L.length)) :
    Calls Try.prog 38 #[.pointer (some ⟨b, 0, none⟩), .int .i64 x] w fun e w' => e = .returned (.tuple #[.int .i64 0, .bool false]) ∧ w = w' := by
  have c0 : w.cell? ⟨b, 0, none⟩ = some (.slice (some ⟨lb, 0, none⟩) L.length L.length) := hM.blk.cell 0
  have hlt := hM.blk.lt
  obtain ⟨n, hn⟩ : ∃ n, L.length = n := ⟨_, rfl⟩
  rw [hn] at c0 hl hk
  clear hM hn
  by_cases h0 : x < 0
  · have k2 : decide (x < 0) = true := by simpa using h0
    clear hk
    go_enter Try.func38, Try.ntmps38
    go_wp2_with fail
    go_ret2
    exact ⟨rfl, rfl⟩
  · have k2 : decide (x < 0) = false := by simpa using h0
    have k3 : (n : Int) ≤ x := by omega
    clear hk
    go_enter Try.func38, Try.ntmps38
    go_wp2_with fail
    go_ret2
    exact ⟨rfl, rfl⟩

set_option maxRecDepth 10000 in
set_option maxHeartbeats 1600000 in
theorem all_any (b lb : Nat) (L : List Int) (w : World) (hM : LAt w b lb L) (hl : L.length ≤ 65536) :
    Calls Try.prog 43 #[.pointer (some ⟨b, 0, none⟩)] w fun e w' => ∃ v, e = .returned v ∧ w'.ownsRow w.heap.size 3 1 v L.length (Ints L) ∧ Only Nil w w' := by
  have c0 : w.cell? ⟨b, 0, none⟩ = some (.slice (some ⟨lb, 0, none⟩) L.length L.length) := hM.blk.cell 0
  have hlt := hM.blk.lt
  obtain ⟨i0, hi0, hz0, hz1, hz2⟩ := info_parts Try.info3
  have hs := src_of_blk hM.num
  have hl2 : (Ints L).length = L.length := Ints_len L
  obtain ⟨X, hX⟩ : ∃ X, Ints L = X := ⟨_, rfl⟩
  have h1 := Ints_one L
  rw [hX] at hs hl2 h1 ⊢
  rw [hl2] at hs
  obtain ⟨n, hn⟩ : ∃ n, L.length = n := ⟨_, rfl⟩
  rw [hn] at c0 hl hl2 hs ⊢
  have HL2 := Lib.hid hl2
  have H1 := Lib.hid h1
  clear hM hn hX hl2 h1
  go_enter Try.func43, Try.ntmps43
  go_wp2_with (at_builtin; go_loud (refine wpList_append_src rfl _ _ 38 rfl w.heap.size 3 i0 (.int .i64 0) 8 Try.underlying38 hi0 hz0 hz1 hz2 rfl _ _ _ rfl (World.ownsRow_nil _ _ _ _) lb _ X rfl hs H1.out ?c1 ?c2 (Nat.le_refl _) ?_))
  case c1 => rw [HL2.out]; simp [maxLen]; omega
  case c2 => rw [HL2.out]; omega
  intro v2 w2 hown2 hv2 ho2
  rw [HL2.out] at hown2
  have HOWN := Lib.hid hown2
  have HO := Lib.hid ho2
  obtain ⟨a9, c9, rfl⟩ := sl_of_own hown2
  clear hown2 hv2 ho2
  go_wp2_with fail
  go_ret
  exact ⟨_, rfl, HOWN.out, HO.out.mono (fun _ h => by cases h)⟩
end Go.Proofs.Ythdolanamcmooaa
