/- Heights, the document's. -/
import Derived.Test.YtbgmdckfkfkglaaHHts
set_option linter.unusedSimpArgs false
set_option linter.unusedVariables false
namespace Go.Proofs.Ytbgmdckfkfkglaa
open Go.RowKit M

theorem rowK_set (K : Nat → Option Nat) (n j h : Nat) (hj : j < n) : (rowK K n).set j (h : Int) = rowK (upK K j h) n := by
  apply List.ext_getElem (by rw [List.length_set, rowK_len, rowK_len])
  intro i p q
  rw [List.length_set, rowK_len] at p
  by_cases e : i = j
  · subst e
    simp [rowK, upK_same]
  · simp [rowK, upK_other _ _ e, List.getElem_set, show ¬ j = i from fun x => e x.symm]
theorem rowK_at {K : Nat → Option Nat} {n i : Nat} (h : i < n) : (Ints (rowK K n)).toArray[i]? = some (.int .i64 (valK K i)) := by
  rw [Ints_get (by rw [rowK_len]; exact h), rowK_get K n i h]; rfl
theorem valK_some {K : Nat → Option Nat} {i h : Nat} (e : K i = some h) : valK K i = h := by unfold valK; rw [e]
theorem valK_none {K : Nat → Option Nat} {i : Nat} (e : K i = none) : valK K i = -1 := by unfold valK; rw [e]
structure Grow (L : List Cod) (K : Nat → Option Nat) : Prop where
  zero : K 0 = some 0
  reach : ∀ i h, K i = some h → M.Reach L i h
theorem Grow.up {L : List Cod} {K : Nat → Option Nat} (g : Grow L K) {j h : Nat} (hj : K j = none) (hr : M.Reach L j h) : Grow L (upK K j h) := by
  refine ⟨?_, fun i x hx => ?_⟩
  · rw [upK_other _ _ (fun e => by rw [← e, g.zero] at hj; cases hj)]; exact g.zero
  · by_cases e : i = j
    · subst e; rw [upK_same] at hx; injection hx with hx; subst hx; exact hr
    · rw [upK_other _ _ e] at hx; exact g.reach i x hx
def Shut (L : List Cod) (K : Nat → Option Nat) (m : Nat) : Prop := ∀ i h, i < m → K i = some h → Fine L i h ∧ ∀ j ∈ waysV L i, K j = some (after L i h)
theorem no_ways {L : List Cod} {i h : Nat} (hy : (waysV L i).length = 0) (hh : h ≤ 1000) : Fine L i h := by
  unfold waysV at hy
  rw [List.length_append] at hy
  obtain ⟨op, hop⟩ : ∃ op, (L.getD i default).op = op := ⟨_, rfl⟩
  rw [hop] at hy
  have hg : goesOn op = false := by
    cases hg : goesOn op with
    | false => rfl
    | true => rw [hg] at hy; simp at hy
  unfold goesOn at hg
  simp only [Bool.not_eq_false', decide_eq_true_eq] at hg
  unfold Fine
  rw [hop]
  rcases hg with rfl | rfl | rfl | rfl
  all_goals exact ⟨Nat.zero_le _, hh⟩

set_option maxRecDepth 20000 in
set_option maxHeartbeats 6400000 in
theorem htsR_any (b : Nat) (ao : Option Addr) (n cap : Nat) (L : List Cod) (w : World) (hs : CSrc w b (.slice ao n cap) L) (hn : L.length = n) (hf : ∀ c ∈ L, c.Fits) (hl : n ≤ 1000) :
    Calls Try.prog 18 #[.slice ao n cap] w (TellsH L w) := by
  have cC := chkR_any b ao n cap L w hs hn hf hl
  cases hc : chk L with
  | some k =>
    rw [chkR_some hc] at cC
    have HT := Lib.hid (hgts_no (L := L) (Or.inl (by rw [hc]; exact nofun)))
    have k0 : (0 : Int) ≤ (k : Int) := Int.natCast_nonneg _
    clear hs hf hc
    go_enter Try.func18, Try.ntmps18
    go_wp2_with fail
    refine cC.mono ?_
    rintro e w1 ⟨rfl, ho1⟩
    clear cC
    go_wp2_with fail
    go_ret2
    exact ⟨false, [], _, rfl, HT.out, World.ownsRow_nil _ _ _ _, ho1⟩
  | none =>
    rw [chkR_none hc] at cC
    have hlen := (of_chk hc).1
    have mk := fun w => make_int n (by omega) w
    have HS := Lib.hid (fun (w' : World) (ho : Only Nil w w') => hs.kept ho)
    have HC := Lib.hid hc
    have HN := Lib.hid hn
    have HF := Lib.hid hf
    have hX0 : (List.replicate n (0 : Int)).length = n := by simp
    obtain ⟨X0, hX⟩ : ∃ X, List.replicate n (0 : Int) = X := ⟨_, rfl⟩
    rw [hX] at mk hX0
    have hn0 : 0 < n := by omega
    clear hs hf hc hn hX hlen
    go_enter Try.func18, Try.ntmps18
    go_wp2_with fail
    refine cC.mono ?_
    rintro e w1 ⟨rfl, ho1⟩
    clear cC
    go_wp2_with fail
    have hB0 := Blk.new w1 (Ints X0).toArray 3
    have ho0 : Only Nil w (w1.alloc (.cells (Ints X0).toArray 3)) := ho1.alloc _
    have hsz1 := ho1.size
    obtain ⟨w2, hw2⟩ : ∃ w2, w1.alloc (.cells (Ints X0).toArray 3) = w2 := ⟨_, rfl⟩
    rw [hw2] at hB0 ho0 ⊢
    obtain ⟨rb, hrb⟩ : ∃ rb, w1.heap.size = rb := ⟨_, rfl⟩
    rw [hrb] at hB0 hsz1 ⊢
    clear mk hw2 hrb ho1
    go_loopg [5] n (fun g i wr => g ≤ n ∧ i = .int .i64 ((n - g : Nat) : Int) ∧ Only Nil w wr ∧ ∃ X : List Int, X.length = n ∧ (∀ j, j < n - g → X.getD j 0 = -1) ∧ Blk wr rb (Ints X).toArray 3)
    case atStart => exact ⟨Nat.le_refl _, by simp, ho0, X0, hX0, fun j hj => by omega, hB0⟩
    case round =>
      clear hB0 ho0
      obtain ⟨hg, rfl, ho, X, hXl, hX, hB⟩ := hrel
      obtain ⟨g, rfl⟩ : ∃ g, g = gk := ⟨gk, rfl⟩
      obtain ⟨k, hk⟩ : ∃ k, n - g = k := ⟨_, rfl⟩
      rw [hk] at hX ⊢
      have hkn : k ≤ n := by omega
      have HK := Lib.hid hk
      have HX := Lib.hid hX
      have HL := Lib.hid hXl
      clear hk hX hXl
      have k0 : (0 : Int) ≤ (k : Int) := Int.natCast_nonneg _
      by_cases hkl : k < n
      · have k1 : (k : Int) < (n : Int) := by omega
        have f0 := hB.free k
        have c0 := (hB.cell k).trans (Ints_get (by rw [HL.out]; exact hkl))
        have hB1 := hB.setCell k (.int .i64 (-1))
        rw [Ints_set] at hB1
        have ho1 : Only Nil w (wr.setCell ⟨rb, k, none⟩ (.int .i64 (-1))) := ho.setCell (fun h => absurd h (by simp only; omega)) _
        have hlt := hB.lt
        have HB1 := Lib.hid hB1
        have HO1 := Lib.hid ho1
        clear hB ho hB1 ho1
        go_wp2_with fail
        go_roundg (g - 1)
        case measure => have := HK.out; omega
        case rel =>
          rw [show n - (g - 1) = k + 1 by have := HK.out; omega]
          refine ⟨by omega, by have := HK.out; go_num, HO1.out, _, by rw [List.length_set]; exact HL.out, fun j hj => ?_, HB1.out⟩
          by_cases hjk : j = k
          · subst hjk
            simp [List.getD, HL.out, hkl]
          · have := HX.out j (by omega)
            rw [← this]
            simp [List.getD, List.getElem?_set, show ¬ k = j by omega]
      · have hkl2 : k = n := by omega
        subst hkl2
        have eX : X = rowK (fun _ => none) k := by
          apply List.ext_getElem (by rw [HL.out, rowK_len])
          intro i p q
          have h1 := HX.out i (by rw [HL.out] at p; exact p)
          have h2 := rowK_get (fun _ => none) k i (by rw [HL.out] at p; exact p)
          simp only at h2
          rw [← h2] at h1
          simpa [List.getD, p, q] using h1
        subst eX
        have f0 := hB.free 0
        have c0 := (hB.cell 0).trans (rowK_at hn0)
        have hB1 := hB.setCell 0 (.int .i64 ((0 : Nat) : Int))
        rw [Ints_set, rowK_set _ _ _ _ hn0] at hB1
        have ho1 : Only Nil w (wr.setCell ⟨rb, 0, none⟩ (.int .i64 ((0 : Nat) : Int))) := ho.setCell (fun h => absurd h (by simp only; omega)) _
        rw [show ((0 : Nat) : Int) = 0 from rfl] at hB1 ho1
        have hlt := hB.lt
        have hg0 : Grow L (upK (fun _ => none) 0 0) := by
          refine ⟨upK_same _ _ _, fun i h hk => ?_⟩
          by_cases e : i = 0
          · subst e; rw [upK_same] at hk; injection hk with hk; subst hk; exact Reach.zero
          · rw [upK_other _ _ e] at hk; cases hk
        have HB1 := Lib.hid hB1
        have HO1 := Lib.hid ho1
        have HG0 := Lib.hid hg0
        clear hB ho hB1 ho1 HX HL HK hg0
        obtain ⟨w3, hw3⟩ : ∃ w3, wr.setCell ⟨rb, 0, none⟩ (.int .i64 0) = w3 := ⟨_, rfl⟩
        rw [hw3] at HB1 HO1
        go_wp2_with fail
        clear hw3 c0 f0 hlt
        obtain ⟨n, rfl⟩ : ∃ n, n = k := ⟨k, rfl⟩
        go_loopg [6] (n - cnt (upK (fun _ => none) 0 0) n + 1) (fun g s6 wx => ∃ (K : Nat → Option Nat) (ag : Bool), s6 = .bool ag ∧ Grow L K ∧ g = n - cnt K n + (if ag then 1 else 0) ∧ (ag = false → Shut L K n) ∧ Blk wx rb (Ints (rowK K n)).toArray 3 ∧ Only Nil w wx)
        case atStart => exact ⟨_, true, rfl, HG0.out, by simp, nofun, HB1.out, HO1.out⟩
        case round =>
          clear HB1 HO1 HG0
          obtain ⟨K, ag, rfl, hgr, hg, hsh, hB, ho⟩ := hrel
          obtain ⟨g, rfl⟩ : ∃ g, g = gk := ⟨gk, rfl⟩
          cases ag
          · have hcl : ∀ i h, K i = some h → Fine L i h ∧ ∀ j ∈ waysV L i, K j = some (after L i h) := fun i h hk => hsh rfl i h (by rw [← HN.out]; exact reach_lt HC.out (hgr.reach i h hk)) hk
            have hT := hgts_ok (H := rowK K n) HC.out hgr.zero hcl hgr.reach (by rw [rowK_len, HN.out]) (fun i hi => rowK_get K n i (by rw [← HN.out]; exact hi))
            have HT := Lib.hid hT
            have hw := own_blk hB (base := w.heap.size) hsz1 (by rw [Ints_len, rowK_len]; simp [maxLen]; omega)
            rw [Ints_len, rowK_len] at hw
            have HW := Lib.hid hw
            clear hT hcl hsh hgr hB hw
            go_wp2_with fail
            go_ret2
            exact ⟨true, rowK K n, _, rfl, HT.out, by rw [rowK_len]; exact HW.out, ho⟩
          · simp only [if_true] at hg
            have HG := Lib.hid hg
            have HGR := Lib.hid hgr
            have HB := Lib.hid hB
            have HO := Lib.hid ho
            clear hg hgr hB ho hsh
            go_wp2_with fail
            go_loopg [6, 7] n (fun q s6 s7 wx => ∃ (K2 : Nat → Option Nat) (a2 : Bool), q ≤ n ∧ s6 = .bool a2 ∧ s7 = .int .i64 ((n - q : Nat) : Int) ∧ Grow L K2 ∧ cnt K n ≤ cnt K2 n ∧ (a2 = true → cnt K n < cnt K2 n) ∧ (a2 = false → Shut L K2 (n - q)) ∧ Blk wx rb (Ints (rowK K2 n)).toArray 3 ∧ Only Nil w wx)
            case atStart => exact ⟨K, false, Nat.le_refl _, rfl, by simp, HGR.out, Nat.le_refl _, nofun, fun _ i h hi => by omega, HB.out, HO.out⟩
            case round =>
              clear HB HO HGR
              obtain ⟨K2, a2, hq, rfl, rfl, hgr, hc2, hc3, hsh, hB, ho⟩ := hrel
              obtain ⟨q, rfl⟩ : ∃ q, q = gk := ⟨gk, rfl⟩
              obtain ⟨i, hi⟩ : ∃ i, n - q = i := ⟨_, rfl⟩
              rw [hi] at hsh ⊢
              have hin : i ≤ n := by omega
              have HI := Lib.hid hi
              have HSH := Lib.hid hsh
              have HC3 := Lib.hid hc3
              have HGR := Lib.hid hgr
              clear hi hsh hc3 hgr
              have i0 : (0 : Int) ≤ (i : Int) := Int.natCast_nonneg _
              by_cases hil : i < n
              · have i1 : (i : Int) < (n : Int) := by omega
                have ci := (hB.cell i).trans (rowK_at hil)
                have hlt := hB.lt
                cases hv : K2 i with
                | none =>
                  rw [valK_none hv] at ci
                  have HV := Lib.hid hv
                  have HB := Lib.hid hB
                  clear hv hB
                  go_wp2_with fail
                  go_roundg (q - 1)
                  case measure => have := HI.out; omega
                  case rel =>
                    rw [show n - (q - 1) = i + 1 by have := HI.out; omega]
                    refine ⟨K2, a2, by omega, rfl, by have := HI.out; go_num, HGR.out, hc2, HC3.out, fun ha => ?_, HB.out, ho⟩
                    intro x y hx hk
                    by_cases e : x = i
                    · rw [e, HV.out] at hk; cases hk
                    · exact HSH.out ha x y (by omega) hk
                | some h =>
                  rw [valK_some hv] at ci
                  have hr := HGR.out.reach i h hv
                  have hh := reach_le hr
                  have hiL : i < L.length := by rw [HN.out]; exact hil
                  obtain ⟨ao', cap', off, e, p2, p3, p4, p5⟩ := HS.out wr ho
                  simp only [Value.slice.injEq] at e
                  obtain ⟨rfl, hxx, rfl⟩ := e
                  clear hxx
                  have hx := p4 (by omega)
                  subst hx
                  have hat : L[i]? = some (L.getD i default) := by simp [List.getD, hiL]
                  obtain ⟨r0, r1⟩ := p5 i _ hat
                  have hbd := (of_chk HC.out).2 i hiL
                  unfold badAt at hbd
                  simp only [Bool.or_eq_false_iff, Bool.not_eq_false', Bool.and_eq_false_iff, decide_eq_true_eq, decide_eq_false_iff_not] at hbd
                  have hgood := hbd.1.1
                  have hmem : L.getD i default ∈ L := by
                    rw [show L.getD i default = L[i] by simp [List.getD, hiL]]; exact List.getElem_mem hiL
                  have hfit := HF.out _ hmem
                  have cF := fun w => effectR_any (L.getD i default).op hgood.1 hgood.2.1 w
                  have cE := fun w => ends_any (L.getD i default).op w
                  have hraf : Fine L i h → ∀ j ∈ waysV L i, M.Reach L j (after L i h) := fun hf j hj => reach_after hr hiL hf hj
                  have hwl : ∀ j ∈ waysV L i, j < n := fun j hj => by rw [← HN.out]; exact way_lt HC.out hiL hj
                  have hafter : after L i h = h - takesV (L.getD i default).op + leavesV (L.getD i default).op := rfl
                  have hfine : Fine L i h ↔ (takesV (L.getD i default).op ≤ h ∧ h - takesV (L.getD i default).op + leavesV (L.getD i default).op ≤ 1000) := Iff.rfl
                  have hway : waysV L i = (if goesOn (L.getD i default).op then [i + 1] else []) ++ (if (L.getD i default).op = 25 ∨ (L.getD i default).op = 26 then [(L.getD i default).k.toNat] else []) := rfl
                  have hk3 := hbd.1.2.1
                  rw [HN.out] at hk3
                  obtain ⟨op, hop⟩ : ∃ op, (L.getD i default).op = op := ⟨_, rfl⟩
                  obtain ⟨kk, hkk⟩ : ∃ kk, (L.getD i default).k = kk := ⟨_, rfl⟩
                  have f3 := hfit.2.1
                  have f4 := hfit.2.2
                  rw [hop] at r0 cF cE hafter hfine hway hk3
                  rw [hkk] at r1 hway hk3 f3 f4
                  have tb2 := takesV_le op
                  have lb2 := leavesV_le op
                  obtain ⟨ta, hta⟩ : ∃ ta, takesV op = ta := ⟨_, rfl⟩
                  obtain ⟨la, hla⟩ : ∃ la, leavesV op = la := ⟨_, rfl⟩
                  rw [hta] at cF hafter hfine tb2
                  rw [hla] at cF hafter hfine lb2
                  obtain ⟨gg, hgg⟩ : ∃ gg, goesOn op = gg := ⟨_, rfl⟩
                  rw [hgg] at cE hway
                  have HFINE := Lib.hid hfine
                  have HAFT := Lib.hid hafter
                  have HWAY := Lib.hid hway
                  have HK3 := Lib.hid hk3
                  have HRAF := Lib.hid hraf
                  have HWL := Lib.hid hwl
                  have HR := Lib.hid hr
                  have HV := Lib.hid hv
                  have HB := Lib.hid hB
                  have kw : IntKind.i64.wrap kk = kk := by rw [IntKind.wrap_i64]; omega
                  unfold maxLen at p3
                  clear hv hr hraf hwl hafter hfine hway hk3 hop hkk hta hla hgg hbd hgood hmem hfit hat p4 p5 hB hiL p2
                  go_wp2_with fail
                  refine (cF _).mono ?_
                  rintro e w5 ⟨rfl, rfl⟩
                  clear cF
                  by_cases hta : h < ta
                  · have hF : Fault L := Or.inl ⟨i, h, HR.out, fun hf => by have := (HFINE.out.1 hf).1; omega⟩
                    have HT := Lib.hid (hgts_no (L := L) (Or.inr hF))
                    have t1 : (h : Int) < (ta : Int) := by omega
                    clear hF
                    go_wp2_with fail
                    go_ret2
                    exact ⟨false, [], _, rfl, HT.out, World.ownsRow_nil _ _ _ _, ho⟩
                  · have t1 : (ta : Int) ≤ (h : Int) := by omega
                    go_wp2_with fail
                    refine (cE _).mono ?_
                    rintro e w5 ⟨rfl, rfl⟩
                    clear cE
                    go_upto_if 64 with fail
                    obtain ⟨i9, hi9, hz90, hz91, hz92⟩ := info_parts Try.info3
                    have R0 := Lib.hid r0
                    have R1 := Lib.hid r1
                    have CI := Lib.hid ci
                    have HO := Lib.hid ho
                    have hszw := ho.size
                    clear r1 ci ho
                    obtain ⟨Y1, hY1⟩ : ∃ Y1, (if gg then [i + 1] else []) = Y1 := ⟨_, rfl⟩
                    obtain ⟨YN, hYN⟩ : ∃ YN, Y1.length = YN := ⟨_, rfl⟩
                    have hYl : YN ≤ 1 := by rw [← hYN, ← hY1]; split <;> simp
                    rw [hY1] at HWAY
                    have HY1 := Lib.hid hY1
                    have HYN := Lib.hid hYN
                    clear hY1 hYN
                    go_cut [10] (fun s10 wx => wx.ownsRow wr.heap.size 3 1 s10 YN (Ints (nats Y1)) ∧ Only Nil wr wx)
                    case first =>
                      clear HFINE HAFT HWAY HK3 HRAF HWL HR HV HB HG HC3 HGR HSH
                      cases gg
                      · go_wp2_with fail
                        go_meet
                        have e1 := HY1.out
                        have e2 := HYN.out
                        simp only [Bool.false_eq_true, if_false] at e1
                        subst e1
                        subst e2
                        exact ⟨World.ownsRow_nil _ _ _ _, Only.refl _ _⟩
                      · go_wp2_with (with_reducible refine wpList_append_one rfl _ _ 31 rfl wr.heap.size 3 i9 (.int .i64 0) 8 Try.underlying31 hi9 hz90 hz91 hz92 rfl _ _ _ rfl (World.ownsRow_nil _ _ _ _) _ rfl rfl (by decide) (by decide) (Nat.le_refl _) ?_)
                        intro g9 cap9 w9 hown9 hc91 hc92 hg9 ho9
                        go_wp2_with fail
                        go_meet
                        have e1 := HY1.out
                        have e2 := HYN.out
                        simp only [if_true] at e1
                        subst e1
                        subst e2
                        exact ⟨hown9, ho9.mono (fun _ h => by cases h)⟩
                    case rest =>
                      obtain ⟨hown, hoA⟩ := hcut
                      have hoW := HO.out.trans hoA (fun _ _ h => h)
                      have q0 := hoA.cell R0.out (fun h => h)
                      have q1 := hoA.cell R1.out (fun h => h)
                      have hszA := hoA.size
                      obtain ⟨a10, c10, rfl⟩ := own_slice hown
                      have HOWN := Lib.hid hown
                      have HOA := Lib.hid hoA
                      have HOW := Lib.hid hoW
                      clear hown hoA hoW
                      go_upto_region 22 with fail
                      obtain ⟨jz, hjz⟩ : ∃ jz, decide (op = 25 ∨ op = 26) = jz := ⟨_, rfl⟩
                      have HJZ := Lib.hid hjz
                      go_cut [83] (fun s83 wx => s83 = .bool jz ∧ wc = wx)
                      case first =>
                        clear HFINE HAFT HRAF HWL HR HV HB HG HC3 HGR HSH HWAY HK3
                        by_cases g1 : op = 25
                        · have n1 : (op == 25) = true := by simp [g1]
                          have hj2 : jz = true := by rw [← hjz, decide_eq_true_eq]; exact Or.inl g1
                          clear hjz g1
                          go_wp2_with fail
                          go_meet
                          exact ⟨by rw [hj2], rfl⟩
                        · have n1 : (op == 25) = false := not_beq g1
                          by_cases g2 : op = 26
                          · have n2 : (op == 26) = true := by simp [g2]
                            have hj2 : jz = true := by rw [← hjz, decide_eq_true_eq]; exact Or.inr g2
                            clear hjz g1 g2
                            go_wp2_with fail
                            go_meet
                            exact ⟨by rw [hj2], rfl⟩
                          · have n2 : (op == 26) = false := not_beq g2
                            have hj2 : jz = false := by rw [← hjz, decide_eq_false_iff_not]; omega
                            clear hjz g1 g2
                            go_wp2_with fail
                            go_meet
                            exact ⟨by rw [hj2], rfl⟩
                      case rest =>
                       obtain ⟨rfl, rfl⟩ := hcut
                       clear hjz
                       go_upto_if 83 with fail
                       go_cut [10] (fun s10 wx => wx.ownsRow wr.heap.size 3 1 s10 (waysV L i).length (Ints (nats (waysV L i))) ∧ Only Nil wr wx)
                       case first =>
                         clear HFINE HAFT HRAF HWL HR HV HB HG HC3 HGR HSH
                         by_cases g1 : op = 25 ∨ op = 26
                         · have hk := HK3.out (by omega)
                           have hw := HWAY.out
                           rw [if_pos g1] at hw
                           have HW := Lib.hid hw
                           have HKK := Lib.hid hk
                           have hj2 : jz = true := by rw [← HJZ.out, decide_eq_true_eq]; exact g1
                           clear hw HK3 HWAY hk g1 HJZ
                           have hown := HOWN.out
                           subst hj2
                           go_wp2_with (with_reducible refine wpList_append_one rfl _ _ 31 rfl wr.heap.size 3 i9 (.int .i64 0) 8 Try.underlying31 hi9 hz90 hz91 hz92 rfl _ _ _ rfl hown _ rfl rfl ?c1 ?c2 hszA ?_)
                           case c1 => simp [maxLen]; omega
                           case c2 => omega
                           intro g9 cap9 w9 hown9 hc91 hc92 hg9 ho9
                           have h10 := HOA.out.nil_own hown ho9
                           have e9 : Ints (nats Y1) ++ [Value.int .i64 kk] = Ints (nats (Y1 ++ [kk.toNat])) := by
                             have := HKK.out
                             simp [Ints, nats, show max kk 0 = kk by omega]
                           rw [e9] at hown9
                           clear ho9 e9
                           go_wp2_with fail
                           go_meet
                           exact ⟨by rw [HW.out, List.length_append, List.length_singleton, HYN.out]; exact hown9, h10⟩
                         · have hw := HWAY.out
                           rw [if_neg g1, List.append_nil] at hw
                           have HW := Lib.hid hw
                           have hj2 : jz = false := by rw [← HJZ.out, decide_eq_false_iff_not]; exact g1
                           clear hw g1 HWAY HK3 HJZ
                           subst hj2
                           go_wp2_with fail
                           go_meet
                           exact ⟨by rw [HW.out, HYN.out]; exact HOWN.out, HOA.out⟩
                       case rest =>
                         obtain ⟨hown, hoA⟩ := hcut
                         obtain ⟨y, hy⟩ : ∃ y, (waysV L i).length = y := ⟨_, rfl⟩
                         have hy2 : y ≤ 2 := by
                           rw [← hy]; unfold waysV; split <;> split <;> simp
                         obtain ⟨YL, hYL⟩ : ∃ YL, waysV L i = YL := ⟨_, rfl⟩
                         rw [hy] at hown
                         obtain ⟨a10, c10, rfl⟩ := own_slice hown
                         rw [hYL] at hown
                         have hYl : YL.length = y := by rw [← hYL]; exact hy
                         have hBw := HB.out.kept hoA (fun h => h)
                         have hoW := HO.out.trans hoA (fun _ _ h => h)
                         have hz10 : (Value.slice a10 y c10).ownBlock ≠ some rb := fun e => by
                           have := own_low hown e
                           omega
                         have HOWN9 := Lib.hid hown
                         have HB9 := Lib.hid hBw
                         have HO9 := Lib.hid hoW
                         have HZ := Lib.hid hz10
                         have HY := Lib.hid hy
                         have HYL := Lib.hid hYL
                         have HYLL := Lib.hid hYl
                         clear hown hBw hoW hz10 hy hYL hYl HB HOWN HOA HOW hoA q0 q1 r0 HK3 HWAY hszA
                         go_wp2_with fail
                         go_loopg [6, 11] y (fun p s6 s11 wx => ∃ (K3 : Nat → Option Nat) (a3 : Bool), p ≤ y ∧ s6 = .bool a3 ∧ s11 = .int .i64 ((y - p : Nat) : Int) ∧ Grow L K3 ∧ K3 i = some h ∧ cnt K n ≤ cnt K3 n ∧ (a3 = true → cnt K n < cnt K3 n) ∧
                           (a3 = false → Shut L K3 i ∧ ∀ j ∈ (waysV L i).take (y - p), K3 j = some (after L i h)) ∧ (0 < y - p → after L i h ≤ 1000) ∧ Blk wx rb (Ints (rowK K3 n)).toArray 3 ∧ Only Nil w wx ∧ wx.ownsRow wr.heap.size 3 1 (.slice a10 y c10) y (Ints (nats YL)))
                         case atStart => exact ⟨K2, a2, Nat.le_refl _, rfl, by simp, HGR.out, HV.out, hc2, HC3.out, fun ha => ⟨HSH.out ha, fun j hj => by simp at hj⟩, fun h => by omega, HB9.out, HO9.out, HOWN9.out⟩
                         case round =>
                           clear HB9 HO9 HOWN9 HGR HV HC3 HSH hc2
                           obtain ⟨K3, a3, hp, rfl, rfl, hgr, hv, hc2, hc3, hsh, hpos, hB, ho, hown⟩ := hrel
                           obtain ⟨p, rfl⟩ : ∃ p, p = gk := ⟨gk, rfl⟩
                           obtain ⟨k, hk⟩ : ∃ k, y - p = k := ⟨_, rfl⟩
                           rw [hk] at hsh hpos ⊢
                           have hky : k ≤ y := by omega
                           have HKK := Lib.hid hk
                           have HSH := Lib.hid hsh
                           have HC3 := Lib.hid hc3
                           have HGR := Lib.hid hgr
                           have HPOS := Lib.hid hpos
                           clear hk hsh hc3 hgr hpos
                           by_cases hkl : k < y
                           · have hkY : k < YL.length := by rw [HYLL.out]; exact hkl
                             have hj : YL[k]? = some YL[k] := List.getElem?_eq_getElem hkY
                             obtain ⟨j, hjj⟩ : ∃ j, YL[k] = j := ⟨_, rfl⟩
                             rw [hjj] at hj
                             have hjm : j ∈ waysV L i := by rw [HYL.out]; exact List.mem_of_getElem? hj
                             have hjn := HWL.out j hjm
                             obtain ⟨g5, c5', e5, p1, p2', p3', p4'⟩ := ownsRow_shape hown (by omega)
                             simp only [Value.slice.injEq, true_and] at e5
                             obtain ⟨rfl, rfl⟩ := e5
                             have ck := hown.cellAt k (by omega)
                             rw [show (Ints (nats YL))[k]? = some (.int .i64 j) by simp [Ints, nats, hj]] at ck
                             have ci := (hB.cell i).trans (rowK_at hil)
                             rw [valK_some hv] at ci
                             have cj := (hB.cell j).trans (rowK_at hjn)
                             have k0 : (0 : Int) ≤ (k : Int) := Int.natCast_nonneg _
                             have k1 : (k : Int) < (y : Int) := by omega
                             have j0 : (0 : Int) ≤ (j : Int) := Int.natCast_nonneg _
                             have j1 : (j : Int) < (n : Int) := by omega
                             have hlt := hB.lt
                             have htk : (waysV L i).take (k + 1) = (waysV L i).take k ++ [j] := by rw [HYL.out, List.take_add_one, hj]; rfl
                             have HTK := Lib.hid htk
                             have HV := Lib.hid hv
                             obtain ⟨af, haf⟩ : ∃ af, after L i h = af := ⟨_, rfl⟩
                             have eaf : (h : Int) - (ta : Int) + (la : Int) = (af : Int) := by have := HAFT.out; omega
                             have HAF := Lib.hid haf
                             have HJM := Lib.hid hjm
                             have HB := Lib.hid hB
                             have HOWN := Lib.hid hown
                             clear hjj hj hjm htk hv haf hB hown hkY
                             go_wp2_with fail
                             go_quiet (fail)
                             have ho6 : Only Nil w (wr.drewN nq) := M.Only.drewN ho nq
                             have hB6 := HB.out.kept (M.Only.drewN (Only.refl Nil wr) nq) (fun h => h)
                             have hown6 := ownsRow_only HOWN.out (M.Only.drewN (Only.refl Nil wr) nq) (fun _ _ h => h)
                             have cj6 := (M.Only.drewN (Only.refl Nil wr) nq).cell cj (fun h => h)
                             have hlt6 := hB6.lt
                             obtain ⟨w6, hw6⟩ : ∃ w6, wr.drewN nq = w6 := ⟨_, rfl⟩
                             rw [hw6] at ho6 hB6 hown6 cj6 hlt6 ⊢
                             have eaf2 : IntKind.i64.wrap (IntKind.i64.wrap ((h : Int) - (ta : Int)) + (la : Int)) = (af : Int) := by
                               rw [IntKind.wrap_i64, IntKind.wrap_i64]; omega
                             rw [eaf2]
                             clear eaf2
                             have HB6 := Lib.hid hB6
                             have HOWN6 := Lib.hid hown6
                             have HO6 := Lib.hid ho6
                             clear hw6 HB HOWN ho ck ci cj hB6 hown6 ho6 eaf
                             by_cases hbig : 1000 < af
                             · have hF : Fault L := Or.inl ⟨i, h, HR.out, fun hf => by have h1 := (HFINE.out.1 hf).2; have h2 := HAFT.out; have h3 := HAF.out; omega⟩
                               have HT := Lib.hid (hgts_no (L := L) (Or.inr hF))
                               have t5 : (1000 : Int) < (af : Int) := by omega
                               clear hF
                               go_wp2_with fail
                               go_ret2
                               exact ⟨false, [], _, rfl, HT.out, World.ownsRow_nil _ _ _ _, HO6.out⟩
                             · have t5 : decide ((1000 : Int) < (af : Int)) = false := by simp; omega
                               have hf : Fine L i h := HFINE.out.2 ⟨by omega, by have h2 := HAFT.out; have h3 := HAF.out; omega⟩
                               have hrj := HRAF.out hf j HJM.out
                               rw [HAF.out] at hrj
                               cases hv3 : K3 j with
                               | none =>
                                 rw [valK_none hv3] at cj6
                                 have hne : i ≠ j := fun e => by have := HV.out; rw [e, hv3] at this; cases this
                                 have hc := cnt_lt K3 j af n hv3 hjn
                                 have hgr2 := HGR.out.up hv3 hrj
                                 have hB7 := HB6.out.setCell j (.int .i64 af)
                                 rw [Ints_set, rowK_set _ _ _ _ hjn] at hB7
                                 have ho7 : Only Nil w (w6.setCell ⟨rb, j, none⟩ (.int .i64 af)) := HO6.out.setCell (fun h => absurd h (by simp only; omega)) _
                                 have hown7 := ownsRow_set_other HOWN6.out ⟨rb, j, none⟩ (.int .i64 af) HZ.out
                                 have fj := HB6.out.free j
                                 have HC9 := Lib.hid hc
                                 have HGR2 := Lib.hid hgr2
                                 have HB7 := Lib.hid hB7
                                 have HO7 := Lib.hid ho7
                                 have HOWN7 := Lib.hid hown7
                                 have HVI := Lib.hid (show upK K3 j af i = some h by rw [upK_other _ _ hne]; exact HV.out)
                                 clear hc hgr2 hB7 ho7 hown7 hv3 hrj hf hne
                                 go_wp2_with fail
                                 go_roundg (p - 1)
                                 case measure => have := HKK.out; omega
                                 case rel =>
                                   rw [show y - (p - 1) = k + 1 by have := HKK.out; omega]
                                   refine ⟨upK K3 j af, true, by omega, rfl, by have := HKK.out; go_num, HGR2.out, HVI.out, by have := HC9.out; omega, fun _ => by have := HC9.out; omega, nofun, fun _ => by rw [HAF.out]; omega, HB7.out, HO7.out, HOWN7.out⟩
                               | some old =>
                                 rw [valK_some hv3] at cj6
                                 have o0 : (0 : Int) ≤ (old : Int) := Int.natCast_nonneg _
                                 by_cases he : old = af
                                 · have he2 : ((old : Int) != (af : Int)) = false := by simp [he]
                                   have o1 : decide ((old : Int) < 0) = false := by simp
                                   have HE := Lib.hid (show K3 j = some (after L i h) by rw [HAF.out, hv3, he])
                                   clear hv3 hrj hf he
                                   go_wp2_with fail
                                   go_roundg (p - 1)
                                   case measure => have := HKK.out; omega
                                   case rel =>
                                     rw [show y - (p - 1) = k + 1 by have := HKK.out; omega]
                                     refine ⟨K3, a3, by omega, rfl, by have := HKK.out; go_num, HGR.out, HV.out, hc2, HC3.out, fun ha => ⟨(HSH.out ha).1, fun x hx => ?_⟩, fun _ => by rw [HAF.out]; omega, HB6.out, HO6.out, HOWN6.out⟩
                                     rw [HTK.out] at hx
                                     rcases List.mem_append.1 hx with hx | hx
                                     · exact (HSH.out ha).2 x hx
                                     · rw [List.mem_singleton.1 hx]; exact HE.out
                                 · have he2 : ((old : Int) != (af : Int)) = true := by simp; omega
                                   have hF : Fault L := Or.inr ⟨j, old, af, HGR.out.reach _ _ hv3, hrj, he⟩
                                   have HT := Lib.hid (hgts_no (L := L) (Or.inr hF))
                                   clear hv3 hrj hf hF
                                   go_wp2_with fail
                                   go_ret2
                                   exact ⟨false, [], _, rfl, HT.out, World.ownsRow_nil _ _ _ _, HO6.out⟩
                           · have hk2 : k = y := by omega
                             subst hk2
                             have hsh2 : a3 = false → Shut L K3 (i + 1) := fun ha x z hx hz => by
                               by_cases e : x = i
                               · subst e
                                 have hzh : z = h := by rw [hv] at hz; injection hz with hz; exact hz.symm
                                 subst hzh
                                 have hf : Fine L x z := by
                                   by_cases h0 : k = 0
                                   · exact no_ways (by rw [HY.out]; exact h0) hh
                                   · have h1 := HPOS.out (by omega)
                                     have h2 := HAFT.out
                                     exact HFINE.out.2 ⟨by omega, by omega⟩
                                 refine ⟨hf, fun m hm => (HSH.out ha).2 m ?_⟩
                                 rw [List.take_of_length_le (by rw [HY.out]; exact Nat.le_refl _)]
                                 exact hm
                               · exact (HSH.out ha).1 x z (by omega) hz
                             have HS2 := Lib.hid hsh2
                             have HB := Lib.hid hB
                             clear hsh2 hB hown hv
                             go_wp2_with fail
                             go_roundg (q - 1)
                             case measure => have := HI.out; omega
                             case rel =>
                               rw [show n - (q - 1) = i + 1 by have := HI.out; omega]
                               exact ⟨K3, a3, by omega, rfl, by have := HI.out; go_num, HGR.out, hc2, HC3.out, HS2.out, HB.out, ho⟩
              · have hil2 : i = n := by omega
                subst hil2
                have HB := Lib.hid hB
                clear hB
                go_wp2_with fail
                go_roundg (i - cnt K2 i + (if a2 then 1 else 0))
                case measure =>
                  have h1 := HG.out
                  have h2 := HC3.out
                  have h3 := cnt_le K2 i
                  cases a2
                  · simp; omega
                  · have := h2 rfl
                    simp; omega
                case rel => exact ⟨K2, a2, rfl, HGR.out, rfl, HSH.out, HB.out, ho⟩
end Go.Proofs.Ytbgmdckfkfkglaa
