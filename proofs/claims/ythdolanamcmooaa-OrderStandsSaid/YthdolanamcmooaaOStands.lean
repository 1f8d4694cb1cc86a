/- Layer 24: in an order each module is there once, behind all that it needs. -/
import Derived.Test.YthdolanamcmooaaOTells
import Derived.Test.YthdolanamcmooaaOStandM
import Derived.Test.YthdolanamcmooaaOKnow3
set_option linter.unusedSimpArgs false
set_option linter.unusedVariables false
namespace Go.Proofs.Ythdolanamcmooaa
open Go.RowKit M

theorem zeroBool (w : World) : (zeroValue 4).run Try.prog w = .ok (.bool false) w := by kernel_rfl
/-- The names of those that were met. -/
def metK : Nat → ByteArray → Option Value
  | 0 => fun _ => none
  | k + 1 => upS (metK k) (txM k) (.bool true)
theorem metK_in : ∀ (k j : Nat), j < k → k ≤ 16 → metK k (txM j) = some (.bool true)
  | 0, j, h, _ => by omega
  | k + 1, j, h, h9 => by
    unfold metK upS
    split
    · rfl
    · rename_i g
      have : j ≠ k := fun e => g (by rw [e])
      exact metK_in k j (by omega) (by omega)
theorem metK_out : ∀ (k j : Nat), k ≤ j → j ≤ 16 → metK k (txM j) = none
  | 0, j, h, _ => rfl
  | k + 1, j, h, h9 => by
    unfold metK upS
    split
    · rename_i g
      have := txM_inj (by omega) (by omega) g
      omega
    · exact metK_out k j (by omega) (by omega)
theorem low_set {M : List Int} {k n : Nat} (hl : M.length = n) (h : ∀ i, i < k → (M.getD i 0).toNat < 2 ^ i) (hk : k < n) (x : Nat) (hx : x < 2 ^ k) : ∀ i, i < k + 1 → ((M.set k (x : Int)).getD i 0).toNat < 2 ^ i := fun i hi => by
  rw [getD_set M k i _ (by omega)]
  split
  · rename_i e
    subst e
    simpa using hx
  · exact h i (by omega)
theorem low_all {M : List Int} {n : Nat} (hl : M.length = n) (h : ∀ i, i < n → (M.getD i 0).toNat < 2 ^ i) : Lower (M.map Int.toNat) := fun i => by
  by_cases hi : i < n
  · have h1 := h i hi
    simp only [List.getD_eq_getElem?_getD, List.getElem?_map, List.getElem?_eq_getElem (show i < M.length by omega)] at h1 ⊢
    simpa using h1
  · have : (M.map Int.toNat).getD i 0 = 0 := by
      simp only [List.getD_eq_getElem?_getD, List.getElem?_map, List.getElem?_eq_none (show M.length ≤ i by omega)]
      rfl
    rw [this]
    exact Nat.two_pow_pos i

set_option maxRecDepth 100000 in
set_option maxHeartbeats 6400000 in
theorem stands_any (a : Option Addr) (n cap mb0 : Nat) (zs : List Int) (w : World) (h1 : InRow w a n cap mb0 (zs.map (Value.int .u32))) (hz : ∀ z ∈ zs, (Lit.int .u32 z).wf = true) :
    Calls Try.prog 12 #[.slice a n cap] w fun e w' => e = .returned (.bool true) ∧ Only Nil w w' := by
  have cK := known24s w
  obtain ⟨l1, s1, lt1, le1, mx1, nn1⟩ := h1
  rw [List.length_map] at l1
  have hzs : Small32 zs := fun z hz' => by have := bounds_u32 (hz z hz'); omega
  have HMX := Lib.hid mx1
  clear mx1 hz
  by_cases g1 : 16 < n
  · have t1 : (16 : Int) < (n : Int) := by omega
    clear s1 l1
    go_enter Try.func12, Try.ntmps12
    go_wp2_with fail
    refine cK.mono ?_
    rintro e w1 ⟨rfl, ho1, hp1⟩
    clear cK hp1
    go_wp2_with fail
    go_ret
    exact ⟨rfl, ho1⟩
  have t1 : decide ((16 : Int) < (n : Int)) = false := by simp; omega
  have hn : n ≤ 16 := by omega
  obtain ⟨i0, hi0, hz0, hz1, hz2⟩ := info_parts infoU32
  have mkm : ∀ w, (Instr.makeMap 104 none).run Try.prog w = .ok (.map (some w.heap.size)) (w.alloc (.map #[] 0)) := fun w => by
    simp [Instr.makeMap, run_underlying Try.underlying104, Result.andThen]
  have HL1 := Lib.hid l1
  have HS1 := Lib.hid (show Src w mb0 (.slice a n cap) (U32s zs) from s1)
  have HZS := Lib.hid hzs
  clear l1 s1 hzs g1
  go_enter Try.func12, Try.ntmps12
  go_wp2_with fail
  refine cK.mono ?_
  rintro e w1 ⟨rfl, ho1, hp1⟩
  have HP1 := Lib.hid hp1
  have HO1 := Lib.hid ho1
  have hs1 := HS1.out.kept ho1 (fun _ h => h)
  clear cK ho1 hp1
  go_wp2_with (at_builtin; go_loud (refine wpList_append_src rfl _ _ 84 rfl w1.heap.size 85 i0 (.int .u32 0) 4 Try.underlying84 hi0 hz0 hz1 hz2 rfl _ _ _ rfl (World.ownsRow_nil _ _ _ _) mb0 _ (U32s zs) rfl hs1 (U32s_one _) ?c1 ?c2 (Nat.le_refl _) ?_))
  case c1 => rw [U32s_len, HL1.out]; simp [maxLen]; omega
  case c2 => rw [U32s_len, HL1.out]; omega
  intro v2 w2 hown2 hv2 ho2
  rw [U32s_len, HL1.out] at hown2
  obtain ⟨a2, c2, hv⟩ := sl_of_own hown2
  subst hv
  have HOW2 := Lib.hid hown2
  have HO2 := Lib.hid (HO1.out.trans (ho2.mono (fun _ h => by cases h)) (fun _ _ h => h) : Only Nil w w2)
  have HZ2 := Lib.hid (show 0 < w2.heap.size by have := ho2.size; have := HP1.out; omega)
  clear hs1 hown2 hv2 ho2
  go_wp2_with fail
  go_loopg [4] n (fun g i wr => ∃ (k : Nat) (M : List Int), i = .int .i64 (k : Int) ∧ k ≤ n ∧ g = n - k ∧ M.length = n ∧ Small32 M ∧ (∀ i, i < k → (M.getD i 0).toNat < 2 ^ i) ∧ wr.ownsRow w1.heap.size 85 1 (.slice a2 n c2) n (U32s M) ∧ Only Nil w wr ∧ 0 < wr.heap.size)
  case atStart => exact ⟨0, zs, rfl, Nat.zero_le _, rfl, HL1.out, HZS.out, fun i hi => by omega, HOW2.out, HO2.out, HZ2.out⟩
  case round =>
    clear HOW2 HO2 HZ2
    obtain ⟨k, M, rfl, hk', hg, hMl, hMs, hlow, hown, ho, hpos⟩ := hrel
    have HG := Lib.hid hg
    have HML := Lib.hid hMl
    have HMS := Lib.hid hMs
    have HLOW := Lib.hid hlow
    have HO := Lib.hid ho
    have HOWN := Lib.hid hown
    have HPOS := Lib.hid hpos
    have k0 : (0 : Int) ≤ (k : Int) := Int.natCast_nonneg _
    by_cases hkn : k < n
    · have k1 : (k : Int) < (n : Int) := by omega
      obtain ⟨g9, cap9, hsh, z1, z2, z3, z4⟩ := ownsRow_shape hown (by omega)
      simp only [Value.slice.injEq] at hsh
      obtain ⟨rfl, hx9, rfl⟩ := hsh
      have ck := (World.ownsRow.cellAt hown k (by omega)).trans (U32s_at (by rw [hMl]; exact hkn))
      have fk := World.ownsRow.frozenAt hown k
      obtain ⟨x, hx⟩ : ∃ x, M.getD k 0 = x := ⟨_, rfl⟩
      have hxb : 0 ≤ x ∧ x < 4294967296 := by
        rw [← hx, List.getD_eq_getElem?_getD, List.getElem?_eq_getElem (by omega)]
        exact hMs _ (List.getElem_mem _)
      rw [hx] at ck
      unfold maxLen at z3
      have hW1 := HO1.out.size
      have ST1 := Lib.hid (fun u => (World.ownsRow.stored hown k u))
      have hband := and_low x.toNat k (by omega) (by omega)
      rw [Int.toNat_of_nonneg hxb.1] at hband
      have HBA := Lib.hid hband
      have hlt2 : x.toNat % 2 ^ k < 2 ^ k := Nat.mod_lt _ (Nat.two_pow_pos k)
      have HLT := Lib.hid (And.intro hlt2 (show x.toNat % 2 ^ k < 4294967296 by have := Nat.mod_le x.toNat (2 ^ k); omega))
      clear hx9 hg hMl hMs hlow hown ho hpos hx z2 hband hlt2
      go_wp2_with fail
      go_region
      all_goals
        go_wp2_with fail
        go_roundg (n - (k + 1))
        case measure => have := HG.out; omega
        case rel =>
          obtain ⟨k1', k2'⟩ := ST1.out (.int .u32 (bits BinOp.and IntKind.u32 x ((2 ^ k - 1) % 4294967296)))
          have hb := HBA.out
          have hlt := HLT.out
          rw [U32s_set] at k1'
          refine ⟨k + 1, M.set k (bits BinOp.and IntKind.u32 x ((2 ^ k - 1) % 4294967296)), by go_num, by omega, rfl, by rw [List.length_set]; exact HML.out, HMS.out.set k _ (bits_range _ _ _), ?_, k1'.drew, (HO.out.trans (Only.of_grown k2') (fun i hi hs => by have h1 : some i = some g9 := hs; injection h1 with h1; omega)).drew, by have h1 := (Only.of_grown k2').size; have h2 := HPOS.out; exact Nat.lt_of_lt_of_le h2 h1⟩
          rw [hb]
          exact low_set HML.out HLOW.out hkn _ hlt.1
    · have hkn' : k = n := by omega
      subst hkn'
      obtain ⟨n, hnn⟩ : ∃ n, n = k := ⟨_, rfl⟩
      subst hnn
      have k1 : (n : Int) ≤ (n : Int) := Int.le_refl _
      obtain ⟨w3, rfl⟩ : ∃ w3, w3 = wr := ⟨wr, rfl⟩
      obtain ⟨vb, hvb, hvs⟩ := own_src' hown
      have hsB : Src w3 vb (.slice a2 n c2) ((M.map Int.toNat).map fun (x : Nat) => Value.int .u32 x) := by
        rw [small_nats HMS.out]; exact hvb
      have cM2 := made_any false a2 n c2 vb (M.map Int.toNat) w3 (by rw [List.length_map]; exact HML.out) hsB (fun z hz => by
        obtain ⟨y, hy, rfl⟩ := List.mem_map.1 hz
        have := HMS.out y hy
        omega) (by omega)
      have hLow := low_all hMl hlow
      obtain ⟨zn, hzn⟩ : ∃ zn, M.map Int.toNat = zn := ⟨_, rfl⟩
      rw [hzn] at cM2 hLow
      have HLW := Lib.hid hLow
      clear hg hMl hMs hlow hown ho hpos hvb hvs hsB hLow hzn
      go_wp2_with fail
      with_reducible refine cM2.mono ?_
      rintro e w4 ⟨v1, rfl, hM1, ho4⟩
      have HO4 := Lib.hid (HO.out.trans ho4 (fun _ _ h => h))
      have hl1 := madeK_len false n zn n
      obtain ⟨a3, c3, hv1⟩ : ∃ a c, v1 = .slice a n c := by
        obtain ⟨xs, hx, _⟩ := hM1
        rw [hl1] at hx
        exact sl_of_own hx
      subst hv1
      have hp4 : 0 < w4.heap.size := by
        have h1 := HPOS.out
        have h3 := ho4.size
        omega
      obtain ⟨qb, hq⟩ := hM1.src hp4
      have cMo := mods_any w4.heap.size qb _ _ w4 hq (Nat.le_refl _) (by rw [hl1]; omega)
      have HQ := Lib.hid hq
      clear cM2 ho4 hM1 hp4 hq
      go_wp2_with fail
      with_reducible refine cMo.mono ?_
      rintro e w5 ⟨v2, l2, d2, rfl, hr2, hord2, ho5⟩
      obtain ⟨rfl, rfl⟩ := made_upto n zn (by omega) HLW.out l2 d2 hord2
      rw [uptoI_len] at hr2
      obtain ⟨aL, cL, hv2⟩ := sl_of_own hr2
      subst hv2
      obtain ⟨lb, hls, hlb⟩ := own_src hr2
      have HO5 := Lib.hid (HO4.out.trans ho5 (fun _ _ h => h))
      have hq5 := HQ.out.kept ho5 nil_ge
      have hz5 := ho5.size
      obtain ⟨L, hL⟩ : ∃ L, madeK false n zn n = L := ⟨_, rfl⟩
      have hat : ∀ i, i < n → ∃ m, L[i]? = some m ∧ m.1 = txM i ∧ ∀ s ∈ needsM m.2, ∃ j, j < i ∧ s = txM j := fun i hi => by
        rw [← hL]
        exact ⟨_, madeK_at false n zn n i hi, rfl, needs_low n zn HLW.out i (by omega)⟩
      rw [hL] at hl1 hq5
      have HAT := Lib.hid hat
      have HLL := Lib.hid hl1
      obtain ⟨mb, hmb⟩ : ∃ mb, w5.heap.size = mb := ⟨_, rfl⟩
      have HLS := Lib.hid hls
      have HLB := Lib.hid (show 0 < n → lb < mb from fun h0 => by have := (hlb h0).2.2; omega)
      have HQ5 := Lib.hid (hq5.mono (show w4.heap.size ≤ mb by omega))
      have HMB := Lib.hid (show w.heap.size ≤ mb by have := HO5.out.size; omega)
      have hMp := SMap.made w5
      have hoA : Only Nil w5 (w5.alloc (.map #[] 0)) := (Only.refl _ _).alloc _
      clear cMo hr2 hord2 ho5 HQ hl1 hL hat hls hlb hq5 hz5 HLW HOWN HML HMS HLOW
      go_wp2_with fail
      obtain ⟨w6, hw6⟩ : ∃ w6, w5.alloc (.map #[] 0) = w6 := ⟨_, rfl⟩
      rw [hw6] at hMp hoA ⊢
      rw [hmb] at hMp
      have HMP := Lib.hid hMp
      have HLS6 := Lib.hid (HLS.out.kept hoA (fun _ h => h))
      have HQ6 := Lib.hid (HQ5.out.kept hoA nil_ge)
      have HO6 := Lib.hid (HO5.out.trans hoA (fun _ _ h => h))
      clear hMp hoA hw6 hmb HLS HQ5 HO5 mkm
      go_loopg [9] n (fun g i wr => ∃ (k : Nat), i = .int .i64 (k : Int) ∧ k ≤ n ∧ g = n - k ∧ SMap wr mb k (metK k) ∧ Only (One mb) w6 wr)
      case atStart => exact ⟨0, rfl, Nat.zero_le _, rfl, HMP.out, Only.refl _ _⟩
      case round =>
        clear HMP
        obtain ⟨k, rfl, hk, hg, hMp, ho⟩ := hrel
        have HG2 := Lib.hid hg
        have HMP := Lib.hid hMp
        have HOK := Lib.hid ho
        clear hg
        have k0 : (0 : Int) ≤ (k : Int) := Int.natCast_nonneg _
        obtain ⟨w7, rfl⟩ : ∃ w7, w7 = wr := ⟨wr, rfl⟩
        by_cases hkn : k < n
        · have k1 : (k : Int) < (n : Int) := by omega
          obtain ⟨m, hm, hm1, hmn⟩ := HAT.out k hkn
          have hls7 := HLS6.out.kept ho (fun h0 h => by have h1 : lb = mb := h; have := HLB.out (by omega); omega)
          have hq7 := HQ6.out.kept ho (fun i hi => by have h1 : i = mb := hi; omega)
          obtain ⟨_, _, offL, e, p1, p2, p3⟩ := hls7
          have hxx := congrArg (fun v => match v with | Value.slice x _ _ => x | _ => none) e
          simp only at hxx
          have e1 := p1 (by simp [Ints, uptoI_len]; omega)
          rw [← hxx] at e1
          subst e1
          have tL := p3 k _ (show (Ints (uptoI n))[k]? = some (.int .i64 (k : Nat)) by simp [Ints, uptoI_at n k hkn])
          have ltL := World.block_lt_of_cell? w7 _ tL
          clear e hxx p1 p2 p3
          obtain ⟨_, _, off2, e, p1, p2, p3, p4⟩ := hq7
          have hxx := congrArg (fun v => match v with | Value.slice x _ _ => x | _ => none) e
          simp only at hxx
          have e1 := p1 (by rw [HLL.out]; omega)
          rw [← hxx] at e1
          subst e1
          obtain ⟨iv, ib, q1', q2', q3', q4', q5', q6'⟩ := p4 k m hm
          have m0 := q1' 0 _ rfl
          have m1 := q1' 1 _ rfl
          have m2 := q1' 2 _ rfl
          have m3 := q1' 3 _ rfl
          have m4 := q1' 4 _ rfl
          have m5 := q1' 5 _ rfl
          have m6 := q1' 6 _ rfl
          have m7 := q1' 7 _ rfl
          simp only [Nat.add_zero] at m0
          rw [hm1] at m0 q5'
          have hltb := World.block_lt_of_cell? w7 _ m0
          have HQ2 := Lib.hid q2'
          have cNI := needsI_any ib (txM k) iv m.2 w7 q2' q4'
          have look := hMp.look (mt := 104) (et := 4) Try.underlying104 (zeroBool w7) (txM k) q5'
          rw [metK_out k k (Nat.le_refl k) (by omega)] at look
          simp only [Option.getD_none] at look
          have HQ5 := Lib.hid q5'
          have HLE := Lib.hid (Nat.le_trans (needsM_len m.2) q4')
          have HQ6S := Lib.hid q6'
          obtain ⟨tk, htk⟩ : ∃ tk, txM k = tk := ⟨_, rfl⟩
          rw [htk] at m0 cNI look
          have HTK := Lib.hid htk
          have HMN := Lib.hid hmn
          clear hm hm1 e hxx p1 p2 p4 q1' q2' ho q3' q4' q5' q6' hMp htk hmn
          go_wp2_with fail
          with_reducible refine cNI.mono ?_
          rintro e w8 ⟨nv, rfl, hown8, ho8⟩
          obtain ⟨A, hA⟩ : ∃ A, needsM m.2 = A := ⟨_, rfl⟩
          rw [hA] at hown8
          have hmn := HMN.out
          rw [hA] at hmn
          have HMA := Lib.hid hmn
          obtain ⟨nn, hnn⟩ : ∃ nn, A.length = nn := ⟨_, rfl⟩
          rw [hnn] at hown8
          have hle : nn ≤ 1000 := by rw [← hnn, ← hA]; exact HLE.out
          have HNN := Lib.hid hnn
          obtain ⟨aN, capN, hnv⟩ := sl_of_own hown8
          subst hnv
          obtain ⟨nb, hsrc, hnb⟩ := own_src hown8
          have HSRC := Lib.hid hsrc
          have HNB := Lib.hid hnb
          have hmp8 := HMP.out.kept ho8 (fun h => h)
          have HM8 := Lib.hid hmp8
          have HO8 := Lib.hid ho8
          clear cNI hmn hA hnn hown8 hsrc hnb ho8 hmp8 look m1 m2 m3 m4 m5 m6 m7
          go_wp2_with fail
          go_loopg [11] nn (fun g i wr => ∃ (j : Nat), i = .int .i64 (j : Int) ∧ j ≤ nn ∧ g = nn - j ∧ wr = w8)
          case atStart => exact ⟨0, rfl, Nat.zero_le _, rfl, rfl⟩
          case round =>
            obtain ⟨j, rfl, hj, hg, rfl⟩ := hrel
            have HG3 := Lib.hid hg
            clear hg
            have j0 : (0 : Int) ≤ (j : Int) := Int.natCast_nonneg _
            by_cases hjn : j < nn
            · have j1 : (j : Int) < (nn : Int) := by omega
              obtain ⟨s, hs⟩ : ∃ s, A[j]? = some s := ⟨_, List.getElem?_eq_getElem (by rw [HNN.out]; exact hjn)⟩
              obtain ⟨q, hq, hsq⟩ := HMA.out s (List.mem_of_getElem? hs)
              obtain ⟨_, _, off3, e, p1, p2, p3'⟩ := HSRC.out
              have hxx := congrArg (fun v => match v with | Value.slice x _ _ => x | _ => none) e
              simp only at hxx
              have e1 := p1 (by rw [Strs_len, HNN.out]; omega)
              rw [← hxx] at e1
              subst e1
              have t2 := p3' j _ (Strs_at hs)
              have ltn := World.block_lt_of_cell? wr _ t2
              have look := HM8.out.look (mt := 104) (et := 4) Try.underlying104 (zeroBool wr) s (by rw [hsq]; exact Nat.le_trans (show (txM q).size ≤ 2 from Nat.le_refl 2) (by unfold maxLen; omega))
              have hK : metK k s = some (.bool true) := by rw [hsq]; exact metK_in k q hq (by omega)
              rw [hK] at look
              simp only [Option.getD_some] at look
              clear e hxx p1 p2 p3' hs hsq hK
              go_wp2_with fail
              go_roundg (nn - (j + 1))
              case measure => have := HG3.out; omega
              case rel => exact ⟨j + 1, by go_num, by omega, rfl, rfl⟩
            · have hjn' : j = nn := by omega
              subst hjn'
              have j1 : (j : Int) ≤ (j : Int) := Int.le_refl _
              have tL' := HO8.out.cell tL (fun h => h)
              have m0' := HO8.out.cell m0 (fun h => h)
              have ltL' := World.block_lt_of_cell? wr _ tL'
              have ltm' := World.block_lt_of_cell? wr _ m0'
              obtain ⟨w9, hrun, hMp9, ho9⟩ := HM8.out.put (mt := 104) (et := 4) Try.underlying104 tk (by rw [← HTK.out]; exact HQ5.out) (.bool true) (by omega)
              have hK : metK k tk = none := by rw [← HTK.out]; exact metK_out k k (Nat.le_refl k) (by omega)
              rw [hK, Option.isSome_none, if_neg (by decide)] at hMp9
              have HMP9 := Lib.hid (show SMap w9 mb (k + 1) (metK (k + 1)) by unfold metK; rw [HTK.out]; exact hMp9)
              have HO9 := Lib.hid ((HOK.out.trans HO8.out (fun _ _ h => h.elim)).trans ho9 (fun _ _ h => h))
              clear tL m0 hMp9 hK ho9 ltL hltb
              go_wp2_with fail
              go_roundg (n - (k + 1))
              case measure => have := HG2.out; omega
              case rel => exact ⟨k + 1, by go_num, by omega, rfl, HMP9.out, HO9.out⟩
        · have hkn' : k = n := by omega
          subst hkn'
          have k1 : (k : Int) ≤ (k : Int) := Int.le_refl _
          have HOF := Lib.hid (HO6.out.trans ho (fun i hi h => by have h1 : i = mb := h; have := HMB.out; omega))
          clear ho
          go_wp2_with fail
          go_ret
          exact ⟨rfl, HOF.out⟩
end Go.Proofs.Ythdolanamcmooaa
