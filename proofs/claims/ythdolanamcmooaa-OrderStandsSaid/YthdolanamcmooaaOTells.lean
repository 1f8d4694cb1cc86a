/- Layer 24: which order any modules have, or why none. -/
import Derived.Test.YthdolanamcmooaaOKnow2
import Derived.BigRegion
import Derived.Deep.RegionWith
set_option linter.unusedSimpArgs false
set_option linter.unusedVariables false
namespace Go.Proofs.Ythdolanamcmooaa
open Go.RowKit M

theorem bits_range (op : BinOp) (a b : Int) : 0 ≤ bits op .u32 a b ∧ bits op .u32 a b < 4294967296 := by
  have hw : ∀ x : Int, 0 ≤ IntKind.u32.wrap x ∧ IntKind.u32.wrap x < 4294967296 := fun x => by
    simp only [IntKind.wrap, IntKind.bits, IntKind.signed]
    have h1 := Int.emod_nonneg x (show (2 ^ 32 : Int) ≠ 0 by decide)
    have h2 := Int.emod_lt_of_pos x (show (0 : Int) < 2 ^ 32 by decide)
    constructor
    · simpa using h1
    · simpa using h2
  unfold bits
  split <;> exact hw _
def U32s (l : List Int) : List Value := l.map (Value.int .u32)
theorem U32s_len (l : List Int) : (U32s l).length = l.length := by simp [U32s]
theorem U32s_at {l : List Int} {k : Nat} (h : k < l.length) : (U32s l)[k]? = some (.int .u32 (l.getD k 0)) := by simp [U32s, List.getD, h]
theorem U32s_set (l : List Int) (k : Nat) (x : Int) : (U32s l).set k (.int .u32 x) = U32s (l.set k x) := by simp [U32s, List.map_set]
theorem U32s_one (l : List Int) : ∀ u ∈ U32s l, u.oneCell' = true := by
  intro u hu
  simp only [U32s, List.mem_map] at hu
  obtain ⟨x, _, rfl⟩ := hu
  rfl
theorem infoU32 : (Try.prog.info? 85).map (fun i => (i.zero, i.size, i.bytes)) = some (some (.int .u32 0), 1, 4) := by kernel_rfl
def Small32 (l : List Int) : Prop := ∀ z ∈ l, 0 ≤ z ∧ z < 4294967296
theorem Small32.set {l : List Int} (h : Small32 l) (k : Nat) (x : Int) (hx : 0 ≤ x ∧ x < 4294967296) : Small32 (l.set k x) := fun z hz => by
  rcases List.mem_or_eq_of_mem_set hz with h1 | rfl
  · exact h z h1
  · exact hx
theorem small_nats {l : List Int} (h : Small32 l) : (l.map Int.toNat).map (fun (x : Nat) => Value.int .u32 x) = U32s l := by
  unfold U32s
  rw [List.map_map]
  apply List.map_congr_left
  intro z hz
  have := (h z hz).1
  simp [Int.toNat_of_nonneg this]

theorem OrdR.len {L : List Md} {l : List Int} {e : Int} (h : OrdR L l e) : l.length ≤ 16 := by
  rcases h with ⟨a, rfl, rfl⟩ | ⟨a, b, rfl, rfl⟩ | ⟨a, b, c, rfl, rfl⟩ | ⟨a, b, c, d, rfl, rfl⟩ | ⟨a, b, c, d, rfl, rfl⟩
  · exact Nat.zero_le _
  · exact Nat.zero_le _
  · exact Nat.zero_le _
  · exact Nat.zero_le _
  · have hN : ∀ i, i < L.length → ∀ j ∈ needI L i, j < L.length := fun i hi j hj => by
      unfold needI at hj
      obtain ⟨s, hs, rfl⟩ := List.mem_map.1 hj
      by_cases g : posB (names L) s < L.length
      · exact g
      · exact absurd ⟨i, hi, s, hs, g⟩ c
    have h1 := runAll_out (visitF (needI L) (L.length + 1)) L.length (visitF_fewer _ _) (fun st out j hs hj => visitF_out (needI L) L.length hN _ st out j hs hj) (List.range L.length) (List.replicate L.length 0) [] (by simp) (fun j hj => by simpa using hj)
    rw [zeros_replicate] at h1
    have h2 : (allF L).2.2.length + zeros (allF L).2.1 ≤ [].length + L.length := h1
    simp only [List.length_nil] at h2
    omega
theorem own_src' {w : World} {base : Nat} {e : TypeId} {aN : Option Addr} {n cap : Nat} {xs : List Value} (h : w.ownsRow base e 1 (.slice aN n cap) n xs) : ∃ nb, Src w nb (.slice aN n cap) xs ∧ True := by
  obtain ⟨nb, h1, _⟩ := own_src h
  exact ⟨nb, h1, trivial⟩

set_option maxRecDepth 100000 in
set_option maxHeartbeats 6400000 in
theorem tells_any (down tw : Bool) (keep : Nat) (a : Option Addr) (n cap mb0 : Nat) (zs : List Int) (w : World) (h1 : InRow w a n cap mb0 (zs.map (Value.int .u32))) (hz : ∀ z ∈ zs, (Lit.int .u32 z).wf = true) (hk : keep < 4294967296) :
    Calls Try.prog 11 #[.slice a n cap, .bool down, .bool tw, .int .u32 keep] w fun e w' => e = .returned (.bool true) ∧ Only Nil w w' := by
  have cK := known24 w
  obtain ⟨l1, s1, lt1, le1, mx1, nn1⟩ := h1
  rw [List.length_map] at l1
  have hzs : Small32 zs := fun z hz' => by have := bounds_u32 (hz z hz'); omega
  have HMX := Lib.hid mx1
  clear mx1 hz
  by_cases g1 : 18 < n
  · have t1 : (18 : Int) < (n : Int) := by omega
    clear s1 l1
    go_enter Try.func11, Try.ntmps11
    go_wp2_with fail
    refine cK.mono ?_
    rintro e w1 ⟨rfl, ho1⟩
    clear cK
    go_wp2_with fail
    go_ret
    exact ⟨rfl, ho1⟩
  have t1 : decide ((18 : Int) < (n : Int)) = false := by simp; omega
  have hn : n ≤ 18 := by omega
  obtain ⟨i0, hi0, hz0, hz1, hz2⟩ := info_parts infoU32
  have HL1 := Lib.hid l1
  have HS1 := Lib.hid (show Src w mb0 (.slice a n cap) (U32s zs) from s1)
  have HZS := Lib.hid hzs
  clear l1 s1 hzs g1
  go_enter Try.func11, Try.ntmps11
  go_wp2_with fail
  refine cK.mono ?_
  rintro e w1 ⟨rfl, ho1⟩
  have HO1 := Lib.hid ho1
  have hs1 := HS1.out.kept ho1 (fun _ h => h)
  clear cK ho1
  go_wp2_with (at_builtin; go_loud (refine wpList_append_src rfl _ _ 84 rfl w1.heap.size 85 i0 (.int .u32 0) 4 Try.underlying84 hi0 hz0 hz1 hz2 rfl _ _ _ rfl (World.ownsRow_nil _ _ _ _) mb0 _ (U32s zs) rfl hs1 (U32s_one _) ?c1 ?c2 (Nat.le_refl _) ?_))
  case c1 => rw [U32s_len, HL1.out]; simp [maxLen]; omega
  case c2 => rw [U32s_len, HL1.out]; omega
  intro v2 w2 hown2 hv2 ho2
  rw [U32s_len, HL1.out] at hown2
  obtain ⟨a2, c2, hv⟩ := sl_of_own hown2
  subst hv
  have HOW2 := Lib.hid hown2
  have HO2 := Lib.hid (HO1.out.trans (ho2.mono (fun _ h => by cases h)) (fun _ _ h => h) : Only Nil w w2)
  clear hs1 hown2 hv2 ho2
  go_wp2_with fail
  go_loopg [10] n (fun g i wr => ∃ (k : Nat) (M : List Int), i = .int .i64 (k : Int) ∧ k ≤ n ∧ g = n - k ∧ M.length = n ∧ Small32 M ∧ wr.ownsRow w1.heap.size 85 1 (.slice a2 n c2) n (U32s M) ∧ Only Nil w wr)
  case atStart => exact ⟨0, zs, rfl, Nat.zero_le _, rfl, HL1.out, HZS.out, HOW2.out, HO2.out⟩
  case round =>
    clear HOW2 HO2
    obtain ⟨k, M, rfl, hk', hg, hMl, hMs, hown, ho⟩ := hrel
    have HG := Lib.hid hg
    have HML := Lib.hid hMl
    have HMS := Lib.hid hMs
    have HO := Lib.hid ho
    have HOWN := Lib.hid hown
    have k0 : (0 : Int) ≤ (k : Int) := Int.natCast_nonneg _
    by_cases hkn : k < n
    · have k1 : (k : Int) < (n : Int) := by omega
      obtain ⟨g9, cap9, hsh, z1, z2, z3, z4⟩ := ownsRow_shape hown (by omega)
      simp only [Value.slice.injEq] at hsh
      obtain ⟨rfl, hx9, rfl⟩ := hsh
      have ck := (World.ownsRow.cellAt hown k (by omega)).trans (U32s_at (by rw [hMl]; exact hkn))
      have fk := World.ownsRow.frozenAt hown k
      obtain ⟨x, hx⟩ : ∃ x, M.getD k 0 = x := ⟨_, rfl⟩
      rw [hx] at ck
      unfold maxLen at z3
      have hW1 := HO1.out.size
      have st1 := fun u => (World.ownsRow.stored hown k u)
      have ST1 := Lib.hid st1
      clear hx9 hg hMl hMs hown ho hx st1 z2
      cases down
      · go_wp2_with fail
        go_roundg (n - (k + 1))
        case measure => have := HG.out; omega
        case rel =>
          have h := ST1.out (.int .u32 (bits BinOp.and IntKind.u32 x (bits BinOp.or IntKind.u32 (keep : Int) 1048576)))
          rw [U32s_set] at h
          exact ⟨k + 1, _, by go_num, by omega, rfl, by rw [List.length_set]; exact HML.out, HMS.out.set k _ (bits_range _ _ _), h.1, HO.out.trans (Only.of_grown h.2) (fun i hi hs => by have h1 : some i = some g9 := hs; injection h1 with h1; omega)⟩
      · have h := ST1.out (.int .u32 (bits BinOp.and IntKind.u32 x (bits BinOp.or IntKind.u32 (keep : Int) 1048576)))
        rw [U32s_set] at h
        obtain ⟨h1, h2⟩ := h
        have ho3 : Only Nil w (w' := wr.setCell ⟨g9, k, none⟩ (.int .u32 (bits BinOp.and IntKind.u32 x (bits BinOp.or IntKind.u32 (keep : Int) 1048576)))) := HO.out.trans (Only.of_grown h2) (fun i hi hs => by have h1 : some i = some g9 := hs; injection h1 with h1; omega)
        obtain ⟨y, hy⟩ : ∃ y, bits BinOp.and IntKind.u32 x (bits BinOp.or IntKind.u32 (keep : Int) 1048576) = y := ⟨_, rfl⟩
        have hyb := bits_range BinOp.and x (bits BinOp.or IntKind.u32 (keep : Int) 1048576)
        rw [hy] at h1 h2 ho3 hyb
        have hl2 : (M.set k y).length = n := by rw [List.length_set]; exact HML.out
        have c2' := (World.ownsRow.cellAt h1 k (by omega)).trans (U32s_at (by rw [hl2]; exact hkn))
        have f2 := World.ownsRow.frozenAt h1 k
        have l2 := (h1.lt g9 rfl).2
        have e2 : (M.set k y).getD k 0 = y := by simp [List.getD, HML.out, hkn]
        rw [e2] at c2'
        have ST2 := Lib.hid (fun u => World.ownsRow.stored h1 k u)
        have HO3 := Lib.hid ho3
        have HSM := Lib.hid (HMS.out.set k y hyb)
        have HL2 := Lib.hid hl2
        clear h1 h2 ho3 hyb hl2 e2
        obtain ⟨w5, hw5⟩ : ∃ w5, wr.setCell ⟨g9, k, none⟩ (.int .u32 y) = w5 := ⟨_, rfl⟩
        rw [hw5] at c2' f2 l2 ST2 HO3
        go_upto_region 11 with fail
        clear hy hw5 ck fk
        go_wp2_with fail
        go_region
        all_goals
          go_wp2_with fail
          go_roundg (n - (k + 1))
          case measure => have := HG.out; omega
          case rel =>
            obtain ⟨k1', k2'⟩ := ST2.out (.int .u32 (bits BinOp.and IntKind.u32 y (bits BinOp.or IntKind.u32 ((2 ^ k - 1) % 4294967296) 1048576)))
            rw [U32s_set] at k1'
            exact ⟨k + 1, _, by go_num, by omega, rfl, by rw [List.length_set]; exact HL2.out, HSM.out.set k _ (bits_range _ _ _), k1'.drew, (HO3.out.trans (Only.of_grown k2') (fun i hi hs => by have h1 : some i = some g9 := hs; injection h1 with h1; omega)).drew⟩
    · have hkn' : k = n := by omega
      subst hkn'
      obtain ⟨n, hnn⟩ : ∃ n, n = k := ⟨_, rfl⟩
      subst hnn
      have k1 : (n : Int) ≤ (n : Int) := Int.le_refl _
      obtain ⟨w3, rfl⟩ : ∃ w3, w3 = wr := ⟨wr, rfl⟩
      have hsA : Src w3 mb0 (.slice a n cap) ((zs.map Int.toNat).map fun (x : Nat) => Value.int .u32 x) := by
        rw [small_nats HZS.out]; exact HS1.out.kept ho (fun _ h => h)
      have cM1 := made_any tw a n cap mb0 (zs.map Int.toNat) w3 (by rw [List.length_map]; exact HL1.out) hsA (fun z hz => by
        obtain ⟨y, hy, rfl⟩ := List.mem_map.1 hz
        have := HZS.out y hy
        omega) hn
      clear hg hMl hMs hown ho hsA
      go_wp2_with fail
      with_reducible refine cM1.mono ?_
      rintro e w4 ⟨v1, rfl, hM1, ho4⟩
      obtain ⟨vb, hvb, hvs⟩ := own_src' (ownsRow_only HOWN.out ho4 (fun _ _ h => h))
      have hsB : Src w4 vb (.slice a2 n c2) ((M.map Int.toNat).map fun (x : Nat) => Value.int .u32 x) := by
        rw [small_nats HMS.out]; exact hvb
      have cM2 := made_any tw a2 n c2 vb (M.map Int.toNat) w4 (by rw [List.length_map]; exact HML.out) hsB (fun z hz => by
        obtain ⟨y, hy, rfl⟩ := List.mem_map.1 hz
        have := HMS.out y hy
        omega) hn
      have HM1 := Lib.hid hM1
      have HO4 := Lib.hid (HO.out.trans ho4 (fun _ _ h => h))
      clear cM1 hM1 ho4 hvb hvs hsB
      go_wp2_with fail
      with_reducible refine cM2.mono ?_
      rintro e w5 ⟨v2, rfl, hM2, ho5⟩
      have HO5 := Lib.hid (HO4.out.trans ho5 (fun _ _ h => h))
      have hM1' := HM1.out.nil ho5
      have hl1 := madeK_len tw n (zs.map Int.toNat) n
      have hl2 := madeK_len tw n (M.map Int.toNat) n
      obtain ⟨L1, hL1⟩ : ∃ L, madeK tw n (zs.map Int.toNat) n = L := ⟨_, rfl⟩
      obtain ⟨L2, hL2⟩ : ∃ L, madeK tw n (M.map Int.toNat) n = L := ⟨_, rfl⟩
      rw [hL1] at hM1' hl1
      rw [hL2] at hM2 hl2
      obtain ⟨a3, c3, hv1⟩ : ∃ a c, v1 = .slice a n c := by
        obtain ⟨xs, hx, _⟩ := hM1'
        rw [hl1] at hx
        exact sl_of_own hx
      obtain ⟨a4, c4, hv2⟩ : ∃ a c, v2 = .slice a n c := by
        obtain ⟨xs, hx, _⟩ := hM2
        rw [hl2] at hx
        exact sl_of_own hx
      subst hv1
      subst hv2
      have HMA := Lib.hid hM1'
      have HMB := Lib.hid hM2
      have HLA := Lib.hid hl1
      have HLB := Lib.hid hl2
      clear cM2 hM2 ho5 hM1' hl1 hl2 hL1 hL2 HM1
      go_wp2_with fail
      have hBX := Blk.new w5 #[Value.slice a3 n c3, .slice a4 n c4] 86
      have ho6 : Only Nil w5 (w5.alloc (.cells #[Value.slice a3 n c3, .slice a4 n c4] 86)) := (Only.refl _ _).alloc _
      obtain ⟨w6, hw6⟩ : ∃ w6, w5.alloc (.cells #[Value.slice a3 n c3, .slice a4 n c4] 86) = w6 := ⟨_, rfl⟩
      have hsz6 : w6.heap.size = w5.heap.size + 1 := by rw [← hw6]; simp
      rw [hw6] at hBX ho6 ⊢
      obtain ⟨xb, hxb⟩ : ∃ xb, w5.heap.size = xb := ⟨_, rfl⟩
      rw [hxb] at hBX ⊢
      obtain ⟨q1, hq1⟩ := (HMA.out.nil ho6).src (by omega)
      obtain ⟨q2, hq2⟩ := (HMB.out.nil ho6).src (by omega)
      have HQ1 := Lib.hid hq1
      have HQ2 := Lib.hid hq2
      have HBX := Lib.hid hBX
      have HO6 := Lib.hid (HO5.out.trans ho6 (fun _ _ h => h))
      have hsel : ∀ i : Nat, i < 2 → ∃ (av : Option Addr) (cv qb : Nat) (L : List Md), w6.cell? ⟨xb, i, none⟩ = some (.slice av n cv) ∧ MSrc w6.heap.size w6 qb (.slice av n cv) L ∧ L.length = n := fun i hi => by
        rcases (show i = 0 ∨ i = 1 by omega) with rfl | rfl
        · exact ⟨a3, c3, q1, L1, HBX.out.cell 0, HQ1.out, HLA.out⟩
        · exact ⟨a4, c4, q2, L2, HBX.out.cell 1, HQ2.out, HLB.out⟩
      have HSEL := Lib.hid hsel
      clear hBX ho6 hw6 hsz6 hxb hq1 hq2 hsel HMA HMB HQ1 HQ2 HBX
      go_loopg [58] 2 (fun g i wr => ∃ (k : Nat), i = .int .i64 (k : Int) ∧ k ≤ 2 ∧ g = 2 - k ∧ Only Nil w6 wr)
      case atStart => exact ⟨0, rfl, Nat.zero_le _, rfl, Only.refl _ _⟩
      case round =>
        obtain ⟨k, rfl, hk2, hg, ho⟩ := hrel
        have HG2 := Lib.hid hg
        have HOK := Lib.hid ho
        obtain ⟨w7, rfl⟩ : ∃ w7, w7 = wr := ⟨wr, rfl⟩
        clear hg
        have k0 : (0 : Int) ≤ (k : Int) := Int.natCast_nonneg _
        by_cases hk3 : k < 2
        · have k1 : (k : Int) < 2 := by omega
          obtain ⟨av, cv, qb, L, hcell, hmsrc, hlen⟩ := HSEL.out k hk3
          have ck := ho.cell hcell (fun h => h)
          have hltx := World.block_lt_of_cell? w7 _ ck
          have hm7 := hmsrc.kept ho nil_ge
          have HM7 := Lib.hid hm7
          have HLL := Lib.hid hlen
          have c1 := mods_any _ qb _ L w7 hm7 ho.size (by rw [hlen]; omega)
          have hsz6 := ho.size
          clear hcell hmsrc hm7 hlen ho
          go_wp2_with fail
          with_reducible refine c1.mono ?_
          rintro e w8 ⟨u1, r1, d1, rfl, hr1, hord1, ho8⟩
          have c2 := orderR_any _ qb _ L w8 (HM7.out.kept ho8 nil_ge) (by have := ho8.size; omega) (by rw [HLL.out]; omega)
          have HR1 := Lib.hid hr1
          have HD1 := Lib.hid hord1
          have HO8 := Lib.hid ho8
          clear c1 hr1 hord1 ho8
          go_wp2_with fail
          with_reducible refine c2.mono ?_
          rintro e w9 ⟨u2, r2, d2, rfl, hr2, hord2, ho9⟩
          obtain ⟨rfl, rfl⟩ := HD1.out.unique hord2
          have hr1 := ownsRow_only HR1.out ho9 (fun _ _ h => h)
          have hrl : r1.length ≤ 1000000 := by have := HD1.out.len; omega
          have cI := intsCmp_any _ _ _ _ r1 r1 w9 (Src.of_own hr1) (Src.of_own hr2) hrl hrl
          rw [decide_eq_true rfl] at cI
          have HO9 := Lib.hid (HO8.out.trans ho9 (fun _ _ h => h))
          have r3 : (d1 != d1) = false := by simp
          clear c2 hr1 hr2 hord2 ho9 hrl
          go_wp2_with fail
          with_reducible refine cI.mono ?_
          rintro e wA ⟨rfl, hoA⟩
          have HOA := Lib.hid (HO9.out.trans hoA (fun _ _ h => h))
          clear cI hoA
          have HM7A := Lib.hid (HM7.out.kept HOA.out nil_ge)
          clear k1 ck hltx
          go_wp2_with fail
          go_loopg [17] n (fun g i wr => ∃ (j : Nat), i = .int .i64 (j : Int) ∧ j ≤ n ∧ g = n - j ∧ Only Nil wA wr)
          case atStart => exact ⟨0, rfl, Nat.zero_le _, rfl, Only.refl _ _⟩
          case round =>
            obtain ⟨j, rfl, hj, hg, ho⟩ := hrel
            have HGJ := Lib.hid hg
            obtain ⟨wB, rfl⟩ : ∃ wB, wB = wr := ⟨wr, rfl⟩
            have HOB := Lib.hid ho
            clear hg
            have j0 : (0 : Int) ≤ (j : Int) := Int.natCast_nonneg _
            by_cases hjn : j < n
            · have j1 : (j : Int) < (n : Int) := by omega
              obtain ⟨m, hm⟩ : ∃ m, L[j]? = some m := ⟨_, List.getElem?_eq_getElem (by rw [HLL.out]; exact hjn)⟩
              obtain ⟨_, _, off2, e, p1, p2, p3, p4⟩ := HM7A.out.kept ho nil_ge
              have hxx := congrArg (fun v => match v with | Value.slice x _ _ => x | _ => none) e
              simp only at hxx
              have e1 := p1 (by rw [HLL.out]; omega)
              rw [← hxx] at e1
              subst e1
              obtain ⟨iv, ib, q1', q2', q3', q4', q5', q6'⟩ := p4 j m hm
              have m0 := q1' 0 _ rfl
              have m1 := q1' 1 _ rfl
              have m2 := q1' 2 _ rfl
              have m3 := q1' 3 _ rfl
              have m4 := q1' 4 _ rfl
              have m5 := q1' 5 _ rfl
              have m6 := q1' 6 _ rfl
              have m7 := q1' 7 _ rfl
              simp only [Nat.add_zero] at m0
              have hltb := World.block_lt_of_cell? wB _ m0
              have HQ2 := Lib.hid q2'
              have cNI := fun (w' : World) (ho : Only Nil wB w') => needsI_any ib m.1 iv m.2 w' (HQ2.out.kept ho (fun _ h => h)) q4'
              have cNR := fun (w' : World) (ho : Only Nil wB w') => needsR_any ib m.1 iv m.2 w' (HQ2.out.kept ho (fun _ h => h)) q4'
              have hnl : (needsM m.2).length ≤ 1000000 := by have := needsM_len m.2; omega
              obtain ⟨A, hA⟩ : ∃ A, needsM m.2 = A := ⟨_, rfl⟩
              unfold NeedsPost at cNI cNR
              rw [hA] at hnl cNI cNR
              have CI := Lib.hid cNI
              have CR := Lib.hid cNR
              have HNL := Lib.hid hnl
              clear hm hxx e p1 p2 p4 q1' q2' hnl hA cNI cNR ho q3' q4' q5' q6'
              go_wp2_with fail
              go_region_with (first
                | (go_at_call 58; refine (CI.out _ ?_).mono ?_; ((repeat with_reducible first | exact Only.refl _ _ | exact oI | exact oR | exact hoI | exact hoR | refine Only.drewN ?_ _ | refine Only.drew ?_ | refine Only.trans ?_ hoR (fun _ _ h => h) | refine Only.trans ?_ hoI (fun _ _ h => h))); rintro e wI ⟨vI, rfl, hownI, hoI⟩; have oI : Only Nil wB wI := (Only.trans (by (repeat with_reducible first | exact Only.refl _ _ | exact oI | exact oR | exact hoI | exact hoR | refine Only.drewN ?_ _ | refine Only.drew ?_ | refine Only.trans ?_ hoR (fun _ _ h => h) | refine Only.trans ?_ hoI (fun _ _ h => h))) hoI (fun _ _ h => h)); have nI0 := oI.cell m0 (fun h => h); have nI1 := oI.cell m1 (fun h => h); have nI2 := oI.cell m2 (fun h => h); have nI3 := oI.cell m3 (fun h => h); have nI4 := oI.cell m4 (fun h => h); have nI5 := oI.cell m5 (fun h => h); have nI6 := oI.cell m6 (fun h => h); have nI7 := oI.cell m7 (fun h => h); have nlI := World.block_lt_of_cell? wI _ nI0)
                | (go_at_call 59; refine (CR.out _ ?_).mono ?_; ((repeat with_reducible first | exact Only.refl _ _ | exact oI | exact oR | exact hoI | exact hoR | refine Only.drewN ?_ _ | refine Only.drew ?_ | refine Only.trans ?_ hoR (fun _ _ h => h) | refine Only.trans ?_ hoI (fun _ _ h => h))); rintro e wR ⟨vR, rfl, hownR, hoR⟩; have oR : Only Nil wB wR := (Only.trans (by (repeat with_reducible first | exact Only.refl _ _ | exact oI | exact oR | exact hoI | exact hoR | refine Only.drewN ?_ _ | refine Only.drew ?_ | refine Only.trans ?_ hoR (fun _ _ h => h) | refine Only.trans ?_ hoI (fun _ _ h => h))) hoR (fun _ _ h => h)); have nR0 := oR.cell m0 (fun h => h); have nR1 := oR.cell m1 (fun h => h); have nR2 := oR.cell m2 (fun h => h); have nR3 := oR.cell m3 (fun h => h); have nR4 := oR.cell m4 (fun h => h); have nR5 := oR.cell m5 (fun h => h); have nR6 := oR.cell m6 (fun h => h); have nR7 := oR.cell m7 (fun h => h); have nlR := World.block_lt_of_cell? wR _ nR0)
                | (go_at_call 57; refine (strs_same _ _ vI vR A _ ((Src.of_own hownI).kept (S := Nil) (by (repeat with_reducible first | exact Only.refl _ _ | exact oI | exact oR | exact hoI | exact hoR | refine Only.drewN ?_ _ | refine Only.drew ?_ | refine Only.trans ?_ hoR (fun _ _ h => h) | refine Only.trans ?_ hoI (fun _ _ h => h))) (fun _ h => h)) ((Src.of_own hownR).kept (S := Nil) (by (repeat with_reducible first | exact Only.refl _ _ | exact oI | exact oR | exact hoI | exact hoR | refine Only.drewN ?_ _ | refine Only.drew ?_ | refine Only.trans ?_ hoR (fun _ _ h => h) | refine Only.trans ?_ hoI (fun _ _ h => h))) (fun _ h => h)) HNL.out).mono ?_; rintro e wS ⟨rfl, hoS⟩))
              all_goals
                have HOS := Lib.hid (show Only Nil wA wS from HOB.out.trans ((Only.trans (by (repeat with_reducible first | exact Only.refl _ _ | exact oI | exact oR | exact hoI | exact hoR | refine Only.drewN ?_ _ | refine Only.drew ?_ | refine Only.trans ?_ hoR (fun _ _ h => h) | refine Only.trans ?_ hoI (fun _ _ h => h))) hoS (fun _ _ h => h) : Only Nil wB wS)) (fun _ _ h => h))
                clear hoS
                go_wp2_with fail
                go_roundg (n - (j + 1))
                case measure => have := HGJ.out; omega
                case rel => exact ⟨j + 1, by go_num, by omega, rfl, HOS.out⟩
            · have hjn' : j = n := by omega
              subst hjn'
              have j1 : (j : Int) ≤ (j : Int) := Int.le_refl _
              have HOE := Lib.hid ((HOK.out.trans HOA.out (fun _ _ h => h)).trans ho (fun _ _ h => h))
              go_wp2_with fail
              go_roundg (2 - (k + 1))
              case measure => have := HG2.out; omega
              case rel => exact ⟨k + 1, by go_num, by omega, rfl, HOE.out⟩
        · have hk4 : k = 2 := by omega
          subst hk4
          have HOF := Lib.hid (HO6.out.trans ho (fun _ _ h => h))
          clear ho
          go_wp2_with fail
          go_ret
          exact ⟨rfl, HOF.out⟩
end Go.Proofs.Ythdolanamcmooaa
