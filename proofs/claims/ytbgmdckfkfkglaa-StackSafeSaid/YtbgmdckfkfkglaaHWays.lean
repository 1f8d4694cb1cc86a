/- Which instructions may follow; what is known, in a row. -/
import Derived.Test.YtbgmdckfkfkglaaHMap
set_option linter.unusedSimpArgs false
set_option linter.unusedVariables false
namespace Go.Proofs.Ytbgmdckfkfkglaa
open Go.RowKit M

def Ints (l : List Int) : List Value := l.map (Value.int .i64)
theorem Ints_len (l : List Int) : (Ints l).length = l.length := by simp [Ints]
def nats (l : List Nat) : List Int := l.map (fun (x : Nat) => (x : Int))
theorem Ints_append (l m : List Int) : Ints (l ++ m) = Ints l ++ Ints m := by simp [Ints]
theorem Try.info3 : (Try.prog.info? 3).map (fun i => (i.zero, i.size, i.bytes)) = some (some (.int .i64 0), 1, 8) := by kernel_rfl

set_option maxRecDepth 10000 in
set_option maxHeartbeats 3200000 in
theorem ways_any (b : Nat) (ao : Option Addr) (n cap : Nat) (L : List Cod) (w : World) (hs : CSrc w b (.slice ao n cap) L) (hn : L.length = n) (hf : ∀ c ∈ L, c.Fits) (hl : n ≤ 1000) (hc : chk L = none) (i : Nat) (hi : i < n) :
    Calls Try.prog 50 #[.slice ao n cap, .int .i64 i] w fun e w' => ∃ v, e = .returned v ∧ w'.ownsRow w.heap.size 3 1 v (waysV L i).length (Ints (nats (waysV L i))) ∧ Only Nil w w' := by
  obtain ⟨ao', cap', off, e, h2, h3, h4, h5⟩ := hs
  simp only [Value.slice.injEq] at e
  obtain ⟨rfl, hxx, rfl⟩ := e
  clear hxx
  have hil : i < L.length := by omega
  have hat : L[i]? = some (L.getD i default) := by simp [List.getD, hil]
  have hx := h4 (by omega)
  subst hx
  obtain ⟨r0, r1⟩ := h5 i _ hat
  have hway : waysV L i = (if goesOn (L.getD i default).op then [i + 1] else []) ++ (if (L.getD i default).op = 25 ∨ (L.getD i default).op = 26 then [(L.getD i default).k.toNat] else []) := rfl
  have hb := (of_chk hc).2 i hil
  have hmem : L.getD i default ∈ L := by
    rw [show L.getD i default = L[i] by simp [List.getD, hil]]; exact List.getElem_mem hil
  have hfit := hf _ hmem
  clear hmem
  obtain ⟨y, hy⟩ : ∃ y, L.getD i default = y := ⟨_, rfl⟩
  rw [hy] at r0 r1 hway hfit
  unfold badAt at hb
  rw [hy] at hb
  obtain ⟨op, kk⟩ := y
  obtain ⟨⟨f1, f2⟩, f3, f4⟩ := hfit
  simp only [Bool.or_eq_false_iff, Bool.not_eq_false', Bool.and_eq_false_iff, decide_eq_true_eq, decide_eq_false_iff_not] at hb
  simp only at r0 r1 hway f1 f2 f3 f4
  have cG := fun w => goesOn_any op w
  obtain ⟨i0, hi0, hz0, hz1, hz2⟩ := info_parts Try.info3
  have z0 : (0 : Int) ≤ (i : Int) := Int.natCast_nonneg _
  have z1 : (i : Int) < (n : Int) := by omega
  unfold maxLen at h3
  rw [hn] at h2
  have kw : IntKind.i64.wrap kk = kk := by rw [IntKind.wrap_i64]; omega
  have hk : (op = 25 ∨ op = 26) → kk = (kk.toNat : Int) := fun h => by
    have := hb.1.2.1 (by simp only; omega)
    simp only at this
    omega
  have HW := Lib.hid hway
  have HK := Lib.hid hk
  have hsz := Nat.le_refl w.heap.size
  rw [HW.out]
  by_cases g1 : op = 25 ∨ op = 26
  · have e1 := HK.out g1
    obtain ⟨t, ht⟩ : ∃ t, kk.toNat = t := ⟨_, rfl⟩
    rw [ht] at e1
    subst e1
    simp only [Int.toNat_natCast] at ht ⊢
    rcases g1 with rfl | rfl
    · have eg : goesOn 25 = false := rfl
      rw [eg] at cG ⊢
      clear HW HK hk hway hb hat h5 h4 hn hil hf hc hy
      go_enter Try.func50, Try.ntmps50
      go_wp2_with fail
      refine (cG _).mono ?_
      rintro e w9 ⟨rfl, rfl⟩
      go_wp2_with (with_reducible refine wpList_append_one rfl _ _ 31 rfl w.heap.size 3 i0 (.int .i64 0) 8 Try.underlying31 hi0 hz0 hz1 hz2 rfl _ _ _ rfl (World.ownsRow_nil _ _ _ _) _ rfl rfl (by decide) (by decide) (Nat.le_refl _) ?_)
      intro g capb w1 hown1 hc1 hc2 hg1 ho1
      go_wp2_with fail
      go_ret
      exact ⟨_, rfl, hown1, ho1.mono (fun _ h => by cases h)⟩
    · have eg : goesOn 26 = true := rfl
      rw [eg] at cG ⊢
      clear HW HK hk hway hb hat h5 h4 hn hil hf hc hy
      go_enter Try.func50, Try.ntmps50
      go_wp2_with fail
      refine (cG _).mono ?_
      rintro e w9 ⟨rfl, rfl⟩
      go_wp2_with (with_reducible refine wpList_append_one rfl _ _ 31 rfl w.heap.size 3 i0 (.int .i64 0) 8 Try.underlying31 hi0 hz0 hz1 hz2 rfl _ _ _ rfl (World.ownsRow_nil _ _ _ _) _ rfl rfl (by decide) (by decide) (Nat.le_refl _) ?_)
      intro g capb w1 hown1 hc1 hc2 hg1 ho1
      have ho1' : Only Nil w w1 := ho1.mono (fun _ h => by cases h)
      have t0 := ho1'.cell r0 (fun h => h)
      have t1 := ho1'.cell r1 (fun h => h)
      have hsz1 := ho1'.size
      clear r0 r1 ho1
      go_wp2_with (with_reducible refine wpList_append_one rfl _ _ 31 rfl w.heap.size 3 i0 (.int .i64 0) 8 Try.underlying31 hi0 hz0 hz1 hz2 rfl _ _ _ rfl hown1 _ rfl rfl (by decide) (by decide) hsz1 ?_)
      intro g2 capb2 w2 hown2 hc12 hc22 hg12 ho2
      have ho3 := ho1'.nil_own hown1 ho2
      clear hown1 ho2
      go_wp2_with fail
      go_ret
      exact ⟨_, rfl, hown2, ho3⟩
  · have n1 : (op == 25) = false := not_beq (by omega)
    have n2 : (op == 26) = false := not_beq (by omega)
    rw [if_neg g1]
    clear HW HK hk hway hb hat h5 h4 hn hil hf hc hy g1
    obtain ⟨q, hq⟩ : ∃ q, goesOn op = q := ⟨_, rfl⟩
    rw [hq] at cG ⊢
    clear hq
    cases q
    · go_enter Try.func50, Try.ntmps50
      go_wp2_with fail
      refine (cG _).mono ?_
      rintro e w9 ⟨rfl, rfl⟩
      go_wp2_with fail
      go_ret
      exact ⟨_, rfl, World.ownsRow_nil _ _ _ _, Only.refl _ _⟩
    · go_enter Try.func50, Try.ntmps50
      go_wp2_with fail
      refine (cG _).mono ?_
      rintro e w9 ⟨rfl, rfl⟩
      go_wp2_with (with_reducible refine wpList_append_one rfl _ _ 31 rfl w.heap.size 3 i0 (.int .i64 0) 8 Try.underlying31 hi0 hz0 hz1 hz2 rfl _ _ _ rfl (World.ownsRow_nil _ _ _ _) _ rfl rfl (by decide) (by decide) (Nat.le_refl _) ?_)
      intro g capb w1 hown1 hc1 hc2 hg1 ho1
      have ho1' : Only Nil w w1 := ho1.mono (fun _ h => by cases h)
      have t0 := ho1'.cell r0 (fun h => h)
      have t1 := ho1'.cell r1 (fun h => h)
      clear r0 r1 ho1
      go_wp2_with fail
      go_ret
      exact ⟨_, rfl, hown1, ho1'⟩

/-- What is known, in a row. -/
def rowK (K : Nat → Option Nat) (n : Nat) : List Int := (List.range n).map fun i => match K i with | some h => (h : Int) | none => -1
theorem rowK_len (K : Nat → Option Nat) (n : Nat) : (rowK K n).length = n := by simp [rowK]
theorem rowK_get (K : Nat → Option Nat) (n i : Nat) (h : i < n) : (rowK K n).getD i 0 = (match K i with | some h => (h : Int) | none => -1) := by
  simp [rowK, List.getD, h]

theorem made_ints (n : Nat) : madeCells #[Value.int .i64 0] n = (Ints (List.replicate n 0)).toArray := by
  unfold madeCells Ints
  apply Array.ext
  · simp
  · intro i h1 h2
    simp [Nat.mod_one]
theorem make_int (n : Nat) (hn : n ≤ 1048576) (w : World) : (Instr.makeSlice 31 (.int .i64 n) (.int .i64 n)).run Try.prog w = .ok (.slice (some ⟨w.heap.size, 0, none⟩) n n) (w.alloc (.cells (Ints (List.replicate n 0)).toArray 3)) := by
  obtain ⟨i0, hi, hz0, hz1, hz2⟩ := info_parts Try.info3
  have h := run_make (P := Try.prog) w 31 3 i0 (.int .i64 0) Try.underlying31 hi hz0 .i64 .i64 (n : Int) (n : Int) (Int.natCast_nonneg _) (Int.le_refl _) (by rw [hz2]; omega) (by omega)
  simp only [Int.toNat_natCast, hz1, Nat.mul_one] at h
  rw [show (Value.int .i64 0).cells = #[Value.int .i64 0] from rfl, made_ints] at h
  exact h
theorem own_blk {w : World} {b base : Nat} {t : TypeId} {l : List Value} (h : Blk w b l.toArray t) (hb : base ≤ b) (hl : l.length ≤ maxLen) : w.ownsRow base t 1 (.slice (some ⟨b, 0, none⟩) l.length l.length) l.length l := by
  refine ⟨by rw [Nat.mul_one], Or.inr ⟨b, _, l.toArray, rfl, hb, h, Nat.le_refl _, hl, by simp, List.take_of_length_le (by simp)⟩⟩
theorem Ints_set (X : List Int) (k : Nat) (x : Int) : ((Ints X).toArray.setIfInBounds k (.int .i64 x)) = (Ints (X.set k x)).toArray := by
  simp [Ints, List.map_set]
theorem Ints_get {X : List Int} {k : Nat} (h : k < X.length) : (Ints X).toArray[k]? = some (.int .i64 (X.getD k 0)) := by
  simp [Ints, List.getD, h]
def valK (K : Nat → Option Nat) (i : Nat) : Int := match K i with | some h => (h : Int) | none => -1

set_option maxRecDepth 10000 in
set_option maxHeartbeats 3200000 in
theorem inRow_any (b n m : Nat) (K : Nat → Option Nat) (w : World) (hM : IMap w b m K) (hn : n ≤ 1000) :
    Calls Try.prog 51 #[.map (some b), .int .i64 n] w fun e w' => ∃ v, e = .returned v ∧ w'.ownsRow w.heap.size 3 1 v n (Ints (rowK K n)) ∧ Only Nil w w' := by
  have mk := fun w => make_int n (by omega) w
  have hX0 : (List.replicate n (0 : Int)).length = n := by simp
  obtain ⟨X0, hX⟩ : ∃ X, List.replicate n (0 : Int) = X := ⟨_, rfl⟩
  rw [hX] at mk hX0
  clear hX
  go_enter Try.func51, Try.ntmps51
  go_wp2_with fail
  have hB0 := Blk.new w (Ints X0).toArray 3
  have ho0 : Only Nil w (w.alloc (.cells (Ints X0).toArray 3)) := (Only.refl _ _).alloc _
  obtain ⟨w1, hw1⟩ : ∃ w1, w.alloc (.cells (Ints X0).toArray 3) = w1 := ⟨_, rfl⟩
  rw [hw1] at hB0 ho0 ⊢
  obtain ⟨rb, hrb⟩ : ∃ rb, w.heap.size = rb := ⟨_, rfl⟩
  rw [hrb] at hB0 ⊢
  have hbr : b < rb := by rw [← hrb]; exact hM.lt
  have hRB := Lib.hid hrb
  have HM := Lib.hid hM
  clear hM mk hw1 hrb
  go_loopg [13] n (fun g i wr => g ≤ n ∧ i = .int .i64 ((n - g : Nat) : Int) ∧ Only Nil w wr ∧ ∃ X : List Int, X.length = n ∧ (∀ j, j < n - g → X.getD j 0 = valK K j) ∧ Blk wr rb (Ints X).toArray 3)
  case atStart => exact ⟨Nat.le_refl _, by simp, ho0, X0, hX0, fun j hj => by omega, hB0⟩
  case round =>
    clear hB0 ho0
    obtain ⟨hg, rfl, ho, X, hXl, hX, hB⟩ := hrel
    obtain ⟨g, rfl⟩ : ∃ g, g = gk := ⟨gk, rfl⟩
    obtain ⟨k, hk⟩ : ∃ k, n - g = k := ⟨_, rfl⟩
    rw [hk] at hX ⊢
    have hkn : k ≤ n := by omega
    have HK := Lib.hid hk
    have HX := Lib.hid hX
    have HL := Lib.hid hXl
    clear hk hX hXl
    have k0 : (0 : Int) ≤ (k : Int) := Int.natCast_nonneg _
    by_cases hkl : k < n
    · have k1 : (k : Int) < (n : Int) := by omega
      have f0 := hB.free k
      have c0 := (hB.cell k).trans (Ints_get (by rw [HL.out]; exact hkl))
      have hB1 := hB.setCell k (.int .i64 (-1))
      rw [Ints_set] at hB1
      have ho1 : Only Nil w (wr.setCell ⟨rb, k, none⟩ (.int .i64 (-1))) := ho.setCell (fun h => absurd h (by simp only; have := hRB.out; omega)) _
      have hlt := hB.lt
      have look := (HM.out.kept ho1 (fun h => h)).look2 k (by omega)
      obtain ⟨v, hv⟩ : ∃ v, K k = v := ⟨_, rfl⟩
      rw [hv] at look
      have HV := Lib.hid hv
      have hl2 : (X.set k (-1)).length = n := by rw [List.length_set]; exact HL.out
      have f1 := hB1.free k
      have c1 := (hB1.cell k).trans (Ints_get (by rw [hl2]; exact hkl))
      have HB1 := Lib.hid hB1
      have HO1 := Lib.hid ho1
      have HL2 := Lib.hid hl2
      clear hB ho hv hB1 ho1 hl2
      cases v with
      | none =>
        simp only [Option.isSome_none, Option.getD_none] at look
        go_wp2_with fail
        go_roundg (g - 1)
        case measure => have := HK.out; omega
        case rel =>
          rw [show n - (g - 1) = k + 1 by have := HK.out; omega]
          refine ⟨by omega, by have := HK.out; go_num, HO1.out, _, HL2.out, fun j hj => ?_, HB1.out⟩
          by_cases hjk : j = k
          · subst hjk
            unfold valK
            rw [HV.out]
            simp [List.getD, HL.out, hkl]
          · have := HX.out j (by omega)
            rw [← this]
            simp [List.getD, List.getElem?_set, show ¬ k = j by omega]
      | some h =>
        simp only [Option.isSome_some, Option.getD_some] at look
        have hB2 := HB1.out.setCell k (.int .i64 h)
        rw [Ints_set] at hB2
        have ho2 := HO1.out.setCell (p := ⟨rb, k, none⟩) (fun h => absurd h (by simp only; have := hRB.out; omega)) (.int .i64 h)
        have HB2 := Lib.hid hB2
        have HO2 := Lib.hid ho2
        clear hB2 ho2
        go_wp2_with fail
        go_roundg (g - 1)
        case measure => have := HK.out; omega
        case rel =>
          rw [show n - (g - 1) = k + 1 by have := HK.out; omega]
          refine ⟨by omega, by have := HK.out; go_num, HO2.out, _, by rw [List.length_set]; exact HL2.out, fun j hj => ?_, HB2.out⟩
          by_cases hjk : j = k
          · subst hjk
            unfold valK
            rw [HV.out]
            simp [List.getD, HL.out, hkl]
          · have := HX.out j (by omega)
            rw [← this]
            simp [List.getD, List.getElem?_set, show ¬ k = j by omega]
    · have hkl2 : k = n := by omega
      subst hkl2
      go_wp2_with fail
      go_ret
      have e : X = rowK K k := by
        apply List.ext_getElem (by rw [HL.out, rowK_len])
        intro i p q
        have h1 := HX.out i (by rw [HL.out] at p; exact p)
        have h2 := rowK_get K k i (by rw [HL.out] at p; exact p)
        unfold valK at h1
        rw [← h2] at h1
        simpa [List.getD, p, q] using h1
      have hw := own_blk hB (base := w.heap.size) (Nat.le_of_eq hRB.out) (by rw [Ints_len, HL.out]; simp [maxLen]; omega)
      rw [Ints_len, HL.out, e] at hw
      exact ⟨_, rfl, hw, ho⟩
end Go.Proofs.Ytbgmdckfkfkglaa
