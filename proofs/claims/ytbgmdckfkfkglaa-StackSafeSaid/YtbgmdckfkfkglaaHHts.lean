/- Heights, the program's. -/
import Derived.Test.YtbgmdckfkfkglaaHWays
import Derived.Deep.Quiet
import Derived.Deep.QuietTactic
set_option linter.unusedSimpArgs false
set_option linter.unusedVariables false
namespace Go.Proofs.Ytbgmdckfkfkglaa
open Go.RowKit M Go.Maps

theorem quiet_q {P : Program} {f : Nat} {args : Array Value} {v : Value} {w : World} (h : Calls P f args w fun e w' => e = .returned v ∧ w = w') : Calls P f args w fun e w' => e = .returned v ∧ w' = w :=
  h.mono fun _ _ ⟨a, b⟩ => ⟨a, b.symm⟩
theorem own_slice {w : World} {base : Nat} {e : TypeId} {size : Nat} {v : Value} {n : Nat} {xs : List Value} (h : w.ownsRow base e size v n xs) : ∃ ao cap, v = .slice ao n cap := by
  rcases h.2 with ⟨rfl, h0⟩ | ⟨g, cap, cur, rfl, _⟩
  · exact ⟨_, _, by rw [h0]⟩
  · exact ⟨_, _, rfl⟩
/-- An owned row without its end. -/
theorem own_take {w : World} {base : Nat} {e : TypeId} {size : Nat} {g : Nat} {n cap : Nat} {xs : List Value} (h : w.ownsRow base e size (.slice (some ⟨g, 0, none⟩) n cap) n xs) (k : Nat) (hk : k ≤ n) : w.ownsRow base e size (.slice (some ⟨g, 0, none⟩) k cap) k (xs.take (k * size)) := by
  rcases h.2 with ⟨h1, _⟩ | ⟨g', cap', cur, h1, hb, hg, hnc, hcm, hcs, ht⟩
  · cases h1
  · simp only [Value.slice.injEq, Option.some.injEq, Addr.mk.injEq, and_true, true_and] at h1
    obtain ⟨rfl, rfl⟩ := h1
    have hm : k * size ≤ n * size := Nat.mul_le_mul_right _ hk
    refine ⟨by rw [List.length_take, h.1]; omega, Or.inr ⟨g, cap, cur, rfl, hb, hg, by omega, hcm, hcs, ?_⟩⟩
    rw [← ht, List.take_take, Nat.min_eq_left hm]

theorem own_low {w : World} {base : Nat} {e : TypeId} {size : Nat} {v : Value} {n : Nat} {xs : List Value} (h : w.ownsRow base e size v n xs) {k : Nat} (hk : v.ownBlock = some k) : base ≤ k := (h.lt k hk).1

def TellsH (L : List Cod) (w : World) (e : Ending) (w' : World) : Prop :=
  ∃ ok H v, e = .returned (.tuple #[v, .bool ok]) ∧ Hgts L ok H ∧ w'.ownsRow w.heap.size 3 1 v H.length (Ints H) ∧ Only Nil w w'

set_option maxRecDepth 20000 in
set_option maxHeartbeats 6400000 in
theorem htsI_any (b : Nat) (ao : Option Addr) (n cap : Nat) (L : List Cod) (w : World) (hs : CSrc w b (.slice ao n cap) L) (hn : L.length = n) (hf : ∀ c ∈ L, c.Fits) (hl : n ≤ 1000) :
    Calls Try.prog 17 #[.slice ao n cap] w (TellsH L w) := by
  have cC := chkI_any b ao n cap L w hs hn hf hl
  cases hc : chk L with
  | some k =>
    rw [chkI_some hc] at cC
    have HT := Lib.hid (hgts_no (L := L) (Or.inl (by rw [hc]; exact nofun)))
    clear hs hf hc
    go_enter Try.func17, Try.ntmps17
    go_wp2_with fail
    refine cC.mono ?_
    rintro e w1 ⟨rfl, ho1⟩
    clear cC
    go_wp2_with fail
    go_ret2
    exact ⟨false, [], _, rfl, HT.out, World.ownsRow_nil _ _ _ _, ho1⟩
  | none =>
    rw [chkI_none hc] at cC
    have hmm := @run_makeMap Try.prog
    have hlen := (of_chk hc).1
    have HS := Lib.hid (fun (w' : World) (ho : Only Nil w w') => hs.kept ho)
    have HC := Lib.hid hc
    have HN := Lib.hid hn
    have HF := Lib.hid hf
    have HW0 := Lib.hid (Work.first hlen)
    clear hs hf hc hn
    go_enter Try.func17, Try.ntmps17
    go_wp2_with fail
    refine cC.mono ?_
    rintro e w1 ⟨rfl, ho1⟩
    clear cC
    obtain ⟨w2, hrun, hM2, ho2⟩ := (IMap.made w1).put 0 0 (by decide) (by decide) (by decide)
    rw [show ((0 : Nat) : Int) = 0 from rfl] at hrun
    have ho2' : Only Nil w w2 := ho1.trans ((((Only.refl Nil w1).alloc (.map #[] 0))).trans ho2 (fun i hi h => absurd h (by unfold M.One; omega))) (fun _ _ h => h)
    obtain ⟨mb, hmb⟩ : ∃ mb, w1.heap.size = mb := ⟨_, rfl⟩
    rw [hmb] at hrun hM2
    have HM2 := Lib.hid hM2
    have HO2 := Lib.hid ho2'
    have hmw : w.heap.size ≤ mb := by rw [← hmb]; exact ho1.size
    clear ho1 ho2 ho2' hM2
    go_wp2_with fail
    have hB0 := Blk.new w2 #[Value.int .i64 0] 3
    have ho3 : Only Nil w (w2.alloc (.cells #[Value.int .i64 0] 3)) := HO2.out.alloc _
    have hM3 := HM2.out.kept ((Only.refl Nil w2).alloc (.cells #[Value.int .i64 0] 3)) (fun h => h)
    have hne : mb < w2.heap.size := HM2.out.lt
    have hmi : IMap (w2.alloc (.cells #[Value.int .i64 0] 3)) mb (cnt (upK (fun _ => none) 0 0) n) (upK (fun _ => none) 0 0) := by
      have hc0 : cnt (fun _ => none) n = 0 := by simp [cnt]
      have := cnt_lt (fun _ => none) 0 0 n rfl (by have := HN.out; omega)
      rw [this.1, hc0]; exact hM3
    have hown0 := own_blk (w := w2.alloc (.cells #[Value.int .i64 0] 3)) (l := Ints (nats [0])) hB0 HO2.out.size (by decide)
    have hne2 : (Value.slice (some ⟨w2.heap.size, 0, none⟩) 1 1).ownBlock ≠ some mb := fun h => by
      injection h with h
      have h : w2.heap.size = mb := h
      omega
    obtain ⟨w3, hw3⟩ : ∃ w3, w2.alloc (.cells #[Value.int .i64 0] 3) = w3 := ⟨_, rfl⟩
    rw [hw3] at hB0 ho3 hM3 hmi hown0 ⊢
    obtain ⟨tb, htb⟩ : ∃ tb, w2.heap.size = tb := ⟨_, rfl⟩
    rw [htb] at hne2 hown0 ⊢
    have hc1 : 1 + (n - cnt (upK (fun _ => none) 0 0) n) ≤ n := by
      have := cnt_lt (fun _ => none) 0 0 n rfl (by have := HN.out; omega)
      omega
    have HC1 := Lib.hid hc1
    clear hc1
    have H0 := Lib.hid (And.intro hmi (And.intro hown0 (And.intro ho3 hne2)))
    clear hB0 ho3 hM3 hmi hown0 hw3 htb hne2 hmm hrun HM2 HO2 hmb hne
    go_loopg [7] (1 + (n - cnt (upK (fun _ => none) 0 0) n)) (fun g s7 wr => ∃ (K : Nat → Option Nat) (T : List Nat), Work L K T ∧ g = T.length + (n - cnt K n) ∧ g ≤ n ∧ IMap wr mb (cnt K n) K ∧
      wr.ownsRow w.heap.size 3 1 s7 T.length (Ints (nats T)) ∧ Only Nil w wr ∧ s7.ownBlock ≠ some mb)
    case atStart => exact ⟨_, [0], HW0.out, rfl, HC1.out, H0.out.1, H0.out.2.1, H0.out.2.2.1, H0.out.2.2.2⟩
    case round =>
      clear H0
      obtain ⟨K, T, hwork, hg, hTn, hM, hown, ho, hne⟩ := hrel
      obtain ⟨g, rfl⟩ : ∃ g, g = gk := ⟨gk, rfl⟩
      rcases List.eq_nil_or_concat T with rfl | ⟨T', i, rfl⟩
      · obtain ⟨ao7, cap7, rfl⟩ := own_slice hown
        have HW := Lib.hid hwork
        have cR := inRow_any mb n _ K wr hM hl
        have hwn : CSrc w b (.slice ao n cap) L := HS.out w (Only.refl _ _)
        clear hwork hg hM hown hne
        go_wp2_with fail
        refine cR.mono ?_
        rintro e w9 ⟨v, rfl, hown9, ho9⟩
        clear cR
        have hcl : ∀ i h, K i = some h → Fine L i h ∧ ∀ j ∈ waysV L i, K j = some (after L i h) := fun i h hk => HW.out.done i h hk (by simp)
        have hT := hgts_ok (H := rowK K n) HC.out HW.out.zero hcl HW.out.reach (by rw [rowK_len, HN.out]) (fun i hi => rowK_get K n i (by rw [← HN.out]; exact hi))
        have HT := Lib.hid hT
        have hbase := ho.size
        clear hT hcl
        go_wp2_with fail
        go_ret2
        have h10 := ownsRow_base hown9 hbase
        refine ⟨true, rowK K n, v, rfl, HT.out, by rw [rowK_len]; exact h10, ho.trans ho9 (fun _ _ h => h)⟩
      · simp only [List.concat_eq_append] at hwork hg hTn hown
        obtain ⟨h, hk⟩ := hwork.todo i (by simp)
        have hr := hwork.reach i h hk
        have hil := reach_lt HC.out hr
        have hh := reach_le hr
        have hmid := hwork.pop hk
        rw [List.length_append, List.length_singleton] at hg
        obtain ⟨t, ht⟩ : ∃ t, T'.length = t := ⟨_, rfl⟩
        rw [List.length_append, List.length_singleton, ht] at hown
        rw [ht] at hg
        obtain ⟨tb, tcap, rfl, q1, q2, q3, q4⟩ := ownsRow_shape hown (Nat.succ_pos t)
        have ct := hown.cellAt t (by omega)
        have e1 : (Ints (nats (T' ++ [i])))[t]? = some (.int .i64 i) := by
          simp [Ints, nats, ← ht]
        rw [e1] at ct
        have hown2 := own_take hown t (by omega)
        have e2 : (Ints (nats (T' ++ [i]))).take (t * 1) = Ints (nats T') := by
          simp [Ints, nats, ← ht]
        rw [e2] at hown2
        have hin : i < n := by rw [← HN.out]; exact hil
        obtain ⟨ao', cap', off, e, p2, p3, p4, p5⟩ := HS.out wr ho
        simp only [Value.slice.injEq] at e
        obtain ⟨rfl, hxx, rfl⟩ := e
        have hx := p4 (by omega)
        subst hx
        have hat : L[i]? = some (L.getD i default) := by simp [List.getD, hil]
        obtain ⟨r0, _⟩ := p5 i _ hat
        have hgood : (L.getD i default).Good := by
          have := (of_chk HC.out).2 i hil
          unfold badAt at this
          simp only [Bool.or_eq_false_iff, Bool.not_eq_false', decide_eq_true_eq] at this
          exact this.1.1
        have cB := fun q => quiet_q (behind_any (L.getD i default).op hgood.1 hgood.2.1 h hh (wr.drewN q))
        have look := fun q => (hM.kept (M.Only.drewN (Only.refl Nil wr) q) (fun h => h)).look i (by omega)
        rw [hk] at look
        simp only [Option.getD_some] at look
        have ep : (((t + 1 : Nat) : Int)) - 1 = (t : Int) := by omega
        have t0 : (0 : Int) ≤ (t : Int) := Int.natCast_nonneg _
        have t1 : (t : Int) < ((t + 1 : Nat) : Int) := by omega
        have t2 : (t : Int) ≤ (tcap : Int) := by omega
        have i0 : (0 : Int) ≤ (i : Int) := Int.natCast_nonneg _
        have i1 : (i : Int) < (n : Int) := by omega
        have hlt0 := ho.size
        have hway := fun (w' : World) (ho' : Only Nil w w') => ways_any b _ n cap L w' (HS.out w' ho') HN.out HF.out hl HC.out i hin
        have hraf : Fine L i h → ∀ j ∈ waysV L i, M.Reach L j (after L i h) := fun hf j hj => reach_after hr hil hf hj
        have hwl : ∀ j ∈ waysV L i, j < n := fun j hj => by rw [← HN.out]; exact way_lt HC.out hil hj
        have hafter : after L i h = h - takesV (L.getD i default).op + leavesV (L.getD i default).op := rfl
        have hfine : Fine L i h ↔ (takesV (L.getD i default).op ≤ h ∧ h - takesV (L.getD i default).op + leavesV (L.getD i default).op ≤ 1000) := Iff.rfl
        obtain ⟨op, hop⟩ : ∃ op, (L.getD i default).op = op := ⟨_, rfl⟩
        rw [hop] at cB r0 hafter hfine
        obtain ⟨ta, hta⟩ : ∃ ta, takesV op = ta := ⟨_, rfl⟩
        obtain ⟨la, hla⟩ : ∃ la, leavesV op = la := ⟨_, rfl⟩
        rw [hta] at cB hafter hfine
        rw [hla] at cB hafter hfine
        obtain ⟨fi, hfi⟩ : ∃ fi, decide (ta ≤ h ∧ h - ta + la ≤ 1000) = fi := ⟨_, rfl⟩
        rw [hfi] at cB
        have HFI : Hid (decide (Fine L i h) = fi) := Lib.hid (by rw [← hfi, decide_eq_decide]; exact hfine)
        have HAF : Hid (fi = true → ((h : Int) - (ta : Nat) + (la : Nat)) = (after L i h : Nat)) := Lib.hid (fun e => by
          rw [e, decide_eq_true_eq] at hfi
          rw [hafter]; omega)
        have HTL := Lib.hid ht
        have HR := Lib.hid hr
        have HRA := Lib.hid hraf
        have HWL := Lib.hid hwl
        have HMID := Lib.hid hmid
        have HK := Lib.hid hk
        have HM := Lib.hid hM
        have HG := Lib.hid hg
        have HWAY := Lib.hid hway
        have HOWN := Lib.hid hown2
        obtain ⟨A, hA⟩ : ∃ A, (h : Int) - (ta : Nat) + (la : Nat) = A := ⟨_, rfl⟩
        rw [hA] at cB HAF
        have HNE := Lib.hid hne
        have ht9 : t + 1 ≤ n := by omega
        have hcn : cnt K n ≤ n := cnt_le K n
        clear hwork hmid hr hraf hwl hafter hfine hk hM hg hway hgood hat p4 p5 hil hfi hop hta hla hown hown2 e1 e2 hne hxx hA ht
        go_wp2_with fail
        go_quiet ((go_at_call 49; exact Calls.quiet_of_same (cB _)))
        have ho2 : Only Nil w (wr.drewN nq) := M.Only.drewN ho nq
        have hM2 := HM.out.kept (M.Only.drewN (Only.refl Nil wr) nq) (fun h => h)
        have hown3 := ownsRow_only HOWN.out (M.Only.drewN (Only.refl Nil wr) nq) (fun _ _ h => h)
        obtain ⟨w4, hw4⟩ : ∃ w4, wr.drewN nq = w4 := ⟨_, rfl⟩
        rw [hw4] at ho2 hM2 hown3 ⊢
        have HO := Lib.hid ho2
        have HM2 := Lib.hid hM2
        have HOWN3 := Lib.hid hown3
        clear HM HOWN hw4 ho2 hM2 hown3 ho ct r0 look cB
        cases fi
        · have hF : Fault L := Or.inl ⟨i, h, HR.out, fun hf => by have := HFI.out; rw [decide_eq_true hf] at this; cases this⟩
          have HT := Lib.hid (hgts_no (L := L) (Or.inr hF))
          clear hF
          go_wp2_with fail
          go_ret2
          exact ⟨false, [], _, rfl, HT.out, World.ownsRow_nil _ _ _ _, HO.out⟩
        · have hf : Fine L i h := by have := HFI.out; simpa using this
          have hA2 := HAF.out rfl
          have hRA := HRA.out hf
          have hle2 := hf.2
          have haf0 : after L i h = h - takesV (L.getD i default).op + leavesV (L.getD i default).op := rfl
          rw [← haf0] at hle2
          clear haf0
          obtain ⟨af, haf⟩ : ∃ af, after L i h = af := ⟨_, rfl⟩
          rw [haf] at hA2 hRA hle2
          have HAFE := Lib.hid haf
          subst hA2
          have HRA2 := Lib.hid hRA
          have HF2 := Lib.hid hf
          clear hf HRA HFI HAF hRA haf
          go_wp2_with fail
          refine (HWAY.out w4 HO.out).mono ?_
          rintro e w5 ⟨v5, rfl, hown5, ho5⟩
          have HNE2 : Hid ((Value.slice (some ⟨tb, 0, none⟩) t tcap).ownBlock ≠ some mb) := Lib.hid (fun e => HNE.out e)
          obtain ⟨y, hy⟩ : ∃ y, (waysV L i).length = y := ⟨_, rfl⟩
          obtain ⟨YL, hYL⟩ : ∃ YL, waysV L i = YL := ⟨_, rfl⟩
          rw [hy] at hown5
          obtain ⟨a5, c5, rfl⟩ := own_slice hown5
          have hYl : YL.length = y := by rw [← hYL]; exact hy
          have hy2 : y ≤ 2 := by
            rw [← hy]; unfold waysV; split <;> split <;> simp
          have HOWN5 := Lib.hid hown5
          have hz5 : (Value.slice a5 y c5).ownBlock ≠ some mb := fun e => by
            have h1 := own_low hown5 e
            have h2 := HM2.out.lt
            omega
          have hz7 : ∀ k, (Value.slice a5 y c5).ownBlock = some k → (Value.slice (some ⟨tb, 0, none⟩) t tcap).ownBlock ≠ some k := fun k e e2 => by
            have h1 := own_low hown5 e
            injection e2 with e2
            have e2 : tb = k := e2
            have h3 := HOWN3.out.lt tb (by rfl)
            omega
          have HZ5 := Lib.hid hz5
          have HZ7 := Lib.hid hz7
          have HO5 := Lib.hid (HO.out.trans ho5 (fun _ _ h => h))
          have HM5 := Lib.hid (HM2.out.kept ho5 (fun h => h))
          have HOWN7 := Lib.hid (ownsRow_only HOWN3.out ho5 (fun _ _ h => h))
          have hb4 : w.heap.size ≤ w4.heap.size := HO.out.size
          have HY := Lib.hid hy
          have HYL := Lib.hid hYL
          have HYLL := Lib.hid hYl
          clear hz5 hz7 hown5 ho5 HM2 HOWN3 HWAY hy hYL hYl q2 q4
          go_wp2_with fail
          go_loopg [7, 57] y (fun q s7 s57 wx => ∃ (K' : Nat → Option Nat) (T2 : List Nat), q ≤ y ∧ s57 = .int .i64 ((y - q : Nat) : Int) ∧ Mid L K' T2 i h (y - q) ∧ T2.length + (n - cnt K' n) = t + (n - cnt K n) ∧ IMap wx mb (cnt K' n) K' ∧
            wx.ownsRow w.heap.size 3 1 s7 T2.length (Ints (nats T2)) ∧ Only Nil w wx ∧ s7.ownBlock ≠ some mb ∧ wx.ownsRow w4.heap.size 3 1 (.slice a5 y c5) y (Ints (nats YL)) ∧ (∀ k, (Value.slice a5 y c5).ownBlock = some k → s7.ownBlock ≠ some k))
          case atStart => exact ⟨K, T', Nat.le_refl _, by simp, by rw [Nat.sub_self]; exact HMID.out, by rw [HTL.out], HM5.out, by rw [HTL.out]; exact HOWN7.out, HO5.out, HNE2.out, by rw [← HYL.out]; exact HOWN5.out, HZ7.out⟩
          case round =>
            clear HOWN5 HM5 HOWN7 HO5 HZ7
            obtain ⟨K', T2, hq, rfl, hmid, hcn2, hM, hown7, ho, hne7, hown5, hz7⟩ := hrel
            obtain ⟨q, rfl⟩ : ∃ q, q = gk := ⟨gk, rfl⟩
            obtain ⟨k, hk⟩ : ∃ k, y - q = k := ⟨_, rfl⟩
            rw [hk] at hmid ⊢
            have hky : k ≤ y := by omega
            have HKK := Lib.hid hk
            clear hk
            by_cases hkl : k < y
            · have hkY : k < YL.length := by rw [HYLL.out]; exact hkl
              have hj : YL[k]? = some YL[k] := List.getElem?_eq_getElem hkY
              obtain ⟨j, hjj⟩ : ∃ j, YL[k] = j := ⟨_, rfl⟩
              rw [hjj] at hj
              have hjm : j ∈ waysV L i := by rw [HYL.out]; exact List.mem_of_getElem? hj
              have hjn := HWL.out j hjm
              have hrj := HRA2.out j hjm
              obtain ⟨g5, c5', e5, p1, p2', p3', p4'⟩ := ownsRow_shape hown5 (by omega)
              simp only [Value.slice.injEq, true_and] at e5
              obtain ⟨rfl, rfl⟩ := e5
              have ck := hown5.cellAt k (by omega)
              rw [show (Ints (nats YL))[k]? = some (.int .i64 j) by simp [Ints, nats, hj]] at ck
              have look := hM.look2 j (by omega)
              have hT2 : T2.length ≤ 2000 := by omega
              have hcnt : cnt K' n ≤ n := cnt_le K' n
              have k0 : (0 : Int) ≤ (k : Int) := Int.natCast_nonneg _
              have k1 : (k : Int) < (y : Int) := by omega
              have HJ := Lib.hid (show (waysV L i)[k]? = some j by rw [HYL.out]; exact hj)
              have HMD := Lib.hid hmid
              cases hv : K' j with
              | some old =>
                rw [hv] at look
                simp only [Option.getD_some, Option.isSome_some] at look
                by_cases he : old = af
                · have he2 : ((old : Int) != (af : Int)) = false := by simp [he]
                  have HS2 := Lib.hid (HMD.out.same HJ.out (by rw [hv, he, HAFE.out]))
                  have H7 := Lib.hid hown7
                  have H5 := Lib.hid hown5
                  have HM7 := Lib.hid hM
                  clear hmid hj hjj hjm hrj hv HJ hown7 hown5 hM
                  go_wp2_with fail
                  go_roundg (q - 1)
                  case measure => have := HKK.out; omega
                  case rel =>
                    rw [show y - (q - 1) = k + 1 by have := HKK.out; omega]
                    exact ⟨K', T2, by omega, by have := HKK.out; go_num, HS2.out, hcn2, HM7.out, H7.out, ho, hne7, H5.out, hz7⟩
                · have he2 : ((old : Int) != (af : Int)) = true := by simp; omega
                  have hF : Fault L := Or.inr ⟨j, old, af, HMD.out.reach _ _ hv, hrj, he⟩
                  have HT := Lib.hid (hgts_no (L := L) (Or.inr hF))
                  clear hmid hj hjj hjm hrj hv HJ hown7 hown5 hM hF
                  go_wp2_with fail
                  go_ret2
                  exact ⟨false, [], _, rfl, HT.out, World.ownsRow_nil _ _ _ _, ho⟩
              | none =>
                rw [hv] at look
                simp only [Option.getD_none, Option.isSome_none] at look
                obtain ⟨w7, hrun, hM7, ho7⟩ := hM.put j af (by omega) (by omega) (by omega)
                have hc := cnt_lt K' j af n hv hjn
                have hmore := HMD.out.more HJ.out hv (by rw [HAFE.out]; exact hrj)
                rw [HAFE.out] at hmore
                have HS2 := Lib.hid hmore
                clear hmore
                have ho8 : Only Nil w w7 := ho.trans ho7 (fun x hx hxm => absurd hx (by unfold M.One at hxm; omega))
                have hown8 := ownsRow_only hown7 ho7 (fun x hx hxm => hne7 (by rw [hx]; exact congrArg some hxm))
                have hown6 := ownsRow_only hown5 ho7 (fun x hx hxm => HZ5.out (by rw [hx]; exact congrArg some hxm))
                rw [← hc.1] at hM7
                have HC9 := Lib.hid hc
                obtain ⟨i9, hi9, hz90, hz91, hz92⟩ := info_parts Try.info3
                have hb7 := ho8.size
                have H5 := Lib.hid hown6
                have HM7 := Lib.hid hM7
                have HO8 := Lib.hid ho8
                obtain ⟨a7, c7, rfl⟩ := own_slice hown7
                clear hmid hj hjj hjm hrj hv HJ hown7 hown5 hM hown6 hM7 ho8 ho7 hc ho
                go_wp2_with (with_reducible refine wpList_append_one rfl _ _ 31 rfl w.heap.size 3 i9 (.int .i64 0) 8 Try.underlying31 hi9 hz90 hz91 hz92 rfl _ _ _ rfl hown8 _ rfl rfl ?c1 ?c2 hb7 ?_)
                case c1 => simp [maxLen]; omega
                case c2 => omega
                intro g9 cap9 w9 hown9 hc91 hc92 hg9 ho9
                have hmb7 := HM7.out.lt
                have hg57 : g5 < w7.heap.size := (H5.out.lt g5 rfl).2
                have hgm : g9 ≠ mb := fun e => by
                  rcases hg9 with h1 | h1
                  · exact hne7 (by rw [← h1, e])
                  · omega
                have hg5 : g9 ≠ g5 := fun e => by
                  rcases hg9 with h1 | h1
                  · exact hz7 g5 rfl (by rw [← h1, e])
                  · omega
                have HR1 := Lib.hid (show IMap w9 mb (cnt (upK K' j af) n) (upK K' j af) from HM7.out.kept ho9 (fun hh => hne7 hh.symm))
                have HR2 := Lib.hid (ownsRow_only H5.out ho9 (fun x hx hxm => hz7 x hx hxm.symm))
                have HR3 := Lib.hid (show Only Nil w w9 from HO8.out.trans ho9 (fun x hx hxm => by
                  have h1 := own_low hown8 hxm.symm
                  exact absurd hx (by omega)))
                have e9 : Ints (nats T2) ++ [Value.int .i64 j] = Ints (nats (T2 ++ [j])) := by simp [Ints, nats]
                rw [e9] at hown9
                have H9 := Lib.hid hown9
                have HGM := Lib.hid hgm
                have HG5 := Lib.hid hg5
                clear hown9 e9 hg9 ho9 hown8 hz7 hne7 HM7 HO8 H5 look hrun ck hgm hg5
                go_wp2_with fail
                go_roundg (q - 1)
                case measure => have := HKK.out; omega
                case rel =>
                  rw [show y - (q - 1) = k + 1 by have := HKK.out; omega]
                  refine ⟨upK K' j af, T2 ++ [j], by omega, by have := HKK.out; go_num, HS2.out, ?_, HR1.out, by rw [List.length_append, List.length_singleton]; exact H9.out, HR3.out, ?_, HR2.out, ?_⟩
                  · rw [List.length_append, List.length_singleton]
                    have := HC9.out
                    omega
                  · exact fun e => HGM.out (by injection e)
                  · exact fun x hx e => HG5.out (by
                      injection hx with hx
                      injection e with e
                      exact e.trans hx.symm)
            · have hk2 : k = y := by omega
              subst hk2
              have hwk := hmid.fin (by rw [HY.out]; exact Nat.le_refl _) HF2.out
              have HWK := Lib.hid hwk
              have H7 := Lib.hid hown7
              have HM7 := Lib.hid hM
              clear hmid hwk hown7 hown5 hM
              go_wp2_with fail
              go_roundg (g - 1)
              case measure => have := HG.out; omega
              case rel => exact ⟨K', T2, HWK.out, by have := HG.out; omega, by omega, HM7.out, H7.out, ho, hne7⟩
end Go.Proofs.Ytbgmdckfkfkglaa
