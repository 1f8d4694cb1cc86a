/- How many words a record has: the program's counter, of records. -/
import Derived.Test.YtcbeibhmjokecaaDoorYWrdP
set_option linter.unusedSimpArgs false
set_option linter.unusedVariables false
namespace Go.Proofs.YtcbeibhmjokecaaDoor
open Go.RowKit M

theorem recP_known {R : Recs} {f : Nat} {K : Kn} {s : ByteArray} {x : Nat} (h : K s = some (some x)) : recP R f K s = (limW x).map (fun y => (y, K)) := by
  cases f <;> (unfold recP; rw [h])
theorem recP_open {R : Recs} {f : Nat} {K : Kn} {s : ByteArray} (h : K s = some none) : recP R f K s = none := by
  cases f <;> (unfold recP; rw [h])
theorem recP_gone {R : Recs} {f : Nat} {K : Kn} {s : ByteArray} (h : K s = none) (hR : R s = none) : recP R f K s = none := by
  cases f <;> (unfold recP; rw [h])
  simp only [hR]; rfl
theorem recP_new {R : Recs} {f : Nat} {K : Kn} {s : ByteArray} {r : Rc} (h : K s = none) (hR : R s = some r) : recP R (f + 1) K s = (if r.base.toList == [] then some (0, updK K s none) else recP R f (updK K s none) r.base).bind fun q =>
    (sumP (tyP (recP R f)) r.fields q.1 q.2).map fun p => (p.1, updK p.2 s (some p.1)) := by
  conv => lhs; unfold recP
  rw [h]
  simp only [hR, Option.bind_some]
set_option maxRecDepth 20000 in
set_option maxHeartbeats 6400000 in
theorem recC_any {B : Nat} {w0 : World} {cb kb n : Nat} {mv : Value} {R : Recs} {fv : ByteArray → Value} {ks : List ByteArray} (hM : RMap (LtB B) w0 mv n R fv) (hF : ∀ s r, R s = some r → r.fields.length ≤ 1000) (hks : ∀ s, (R s).isSome = true → s ∈ ks) (hn9 : ks.length ≤ 20000) (hkb : B ≤ kb) :
    ∀ f, RecOk B w0 cb kb mv R ks f := by
  intro f
  induction f with
  | zero =>
    intro K s w m hs hw hC hav hfit
    have c0 : w.cell? ⟨cb, 0, none⟩ = some mv := hC.blk.cell 0
    have c1 : w.cell? ⟨cb, 1, none⟩ = some (.map (some kb)) := hC.blk.cell 1
    have clt := hC.blk.lt
    have look1 := hC.map.look2 Tryd.underlying67 (zeroI w) s hs
    have hwm := hM.kept hw (fun k hk hg => by unfold LtB at hk; unfold GeB at hg; omega)
    have look2 := hwm.look2 s hs
    have HC := Lib.hid hC
    have HFIT := Lib.hid hfit
    cases hK : K s with
    | some v =>
      have e1 : kvs K s = some (knV v) := by unfold kvs; rw [hK]; rfl
      rw [e1] at look1
      simp only [Option.getD_some, Option.isSome_some] at look1
      cases v with
      | none =>
        have eX := recP_open (R := R) (f := 0) hK
        rw [eX]
        simp only [knV] at look1
        clear hs hw hC hav hfit hM hF hks hn9 hkb hwm look2 hK e1 eX 
        go_enter Tryd.func47, Tryd.ntmps47
        go_wp2_with fail
        refine (fewP_any _ _ _).mono ?_
        rintro e w5 ⟨rfl, rfl⟩
        have ef : fewV (-1) false = .tuple #[.int .i64 0, .bool false] := rfl
        rw [ef]
        clear ef
        go_wp2_with fail
        go_ret2
        exact ⟨Only.refl _ _, fun _ => rfl, fun x K' h => by cases h⟩
      | some x =>
        have eX := recP_known (R := R) (f := 0) hK
        obtain ⟨X, hX⟩ : ∃ X, recP R (0) K s = X := ⟨_, rfl⟩
        rw [hX]
        rw [hX] at eX
        unfold limW at eX
        have ne : ((x : Int) != -1) = true := by simp <;> omega
        simp only [knV] at look1
        clear hs hw hC hav hfit hM hF hks hn9 hkb hwm look2 hK e1 hX 
        by_cases hp4 : x ≤ 16384
        · rw [if_pos hp4] at eX
          subst eX
          have ef : fewV (x : Int) true = .tuple #[.int .i64 (x : Int), .bool true] := by unfold fewV; rw [if_pos ⟨rfl, by omega⟩]
          clear hp4
          go_enter Tryd.func47, Tryd.ntmps47
          go_wp2_with fail
          refine (fewP_any _ _ _).mono ?_
          rintro e w5 ⟨rfl, rfl⟩
          rw [ef]
          clear ef
          go_wp2_with fail
          go_ret2
          exact ⟨Only.refl _ _, (fun h => by cases h), fun x' K' h => by simp only [Option.map_some, Option.some.injEq, Prod.mk.injEq] at h; obtain ⟨rfl, rfl⟩ := h; exact ⟨rfl, m, HC.out, HFIT.out⟩⟩
        · rw [if_neg hp4] at eX
          subst eX
          have ef : fewV (x : Int) true = .tuple #[.int .i64 0, .bool false] := by unfold fewV; rw [if_neg (fun h => by have := h.2; omega)]
          clear hp4
          go_enter Tryd.func47, Tryd.ntmps47
          go_wp2_with fail
          refine (fewP_any _ _ _).mono ?_
          rintro e w5 ⟨rfl, rfl⟩
          rw [ef]
          clear ef
          go_wp2_with fail
          go_ret2
          exact ⟨Only.refl _ _, fun _ => rfl, fun x K' h => by cases h⟩
    | none =>
      have e1 : kvs K s = none := by unfold kvs; rw [hK]; rfl
      rw [e1] at look1
      simp only [Option.getD_none, Option.isSome_none] at look1
      cases hR : R s with
      | none =>
        rw [hR] at look2
        simp only [Option.map_none, Option.getD_none, Option.isSome_none] at look2
        rw [recP_gone hK hR]
        clear hs hw hC hav hfit hM hF hks hn9 hkb hwm hK e1 hR 
        go_enter Tryd.func47, Tryd.ntmps47
        go_wp2_with fail
        go_ret2
        exact ⟨Only.nilOf ((Only.refl Nil w).alloc _), fun _ => rfl, fun x K' h => by cases h⟩
      | some r =>
        have := avail_lt (hks s (by rw [hR]; rfl)) hK none
        omega
  | succ f ih =>
    intro K s w m hs hw hC hav hfit
    have c0 : w.cell? ⟨cb, 0, none⟩ = some mv := hC.blk.cell 0
    have c1 : w.cell? ⟨cb, 1, none⟩ = some (.map (some kb)) := hC.blk.cell 1
    have clt := hC.blk.lt
    have look1 := hC.map.look2 Tryd.underlying67 (zeroI w) s hs
    have hwm := hM.kept hw (fun k hk hg => by unfold LtB at hk; unfold GeB at hg; omega)
    have look2 := hwm.look2 s hs
    have HC := Lib.hid hC
    have HFIT := Lib.hid hfit
    cases hK : K s with
    | some v =>
      have e1 : kvs K s = some (knV v) := by unfold kvs; rw [hK]; rfl
      rw [e1] at look1
      simp only [Option.getD_some, Option.isSome_some] at look1
      cases v with
      | none =>
        have eX := recP_open (R := R) (f := f + 1) hK
        rw [eX]
        simp only [knV] at look1
        clear hs hw hC hav hfit hM hF hks hn9 hkb hwm look2 hK e1 eX ih
        go_enter Tryd.func47, Tryd.ntmps47
        go_wp2_with fail
        refine (fewP_any _ _ _).mono ?_
        rintro e w5 ⟨rfl, rfl⟩
        have ef : fewV (-1) false = .tuple #[.int .i64 0, .bool false] := rfl
        rw [ef]
        clear ef
        go_wp2_with fail
        go_ret2
        exact ⟨Only.refl _ _, fun _ => rfl, fun x K' h => by cases h⟩
      | some x =>
        have eX := recP_known (R := R) (f := f + 1) hK
        obtain ⟨X, hX⟩ : ∃ X, recP R (f + 1) K s = X := ⟨_, rfl⟩
        rw [hX]
        rw [hX] at eX
        unfold limW at eX
        have ne : ((x : Int) != -1) = true := by simp <;> omega
        simp only [knV] at look1
        clear hs hw hC hav hfit hM hF hks hn9 hkb hwm look2 hK e1 hX ih
        by_cases hp4 : x ≤ 16384
        · rw [if_pos hp4] at eX
          subst eX
          have ef : fewV (x : Int) true = .tuple #[.int .i64 (x : Int), .bool true] := by unfold fewV; rw [if_pos ⟨rfl, by omega⟩]
          clear hp4
          go_enter Tryd.func47, Tryd.ntmps47
          go_wp2_with fail
          refine (fewP_any _ _ _).mono ?_
          rintro e w5 ⟨rfl, rfl⟩
          rw [ef]
          clear ef
          go_wp2_with fail
          go_ret2
          exact ⟨Only.refl _ _, (fun h => by cases h), fun x' K' h => by simp only [Option.map_some, Option.some.injEq, Prod.mk.injEq] at h; obtain ⟨rfl, rfl⟩ := h; exact ⟨rfl, m, HC.out, HFIT.out⟩⟩
        · rw [if_neg hp4] at eX
          subst eX
          have ef : fewV (x : Int) true = .tuple #[.int .i64 0, .bool false] := by unfold fewV; rw [if_neg (fun h => by have := h.2; omega)]
          clear hp4
          go_enter Tryd.func47, Tryd.ntmps47
          go_wp2_with fail
          refine (fewP_any _ _ _).mono ?_
          rintro e w5 ⟨rfl, rfl⟩
          rw [ef]
          clear ef
          go_wp2_with fail
          go_ret2
          exact ⟨Only.refl _ _, fun _ => rfl, fun x K' h => by cases h⟩
    | none =>
      have e1 : kvs K s = none := by unfold kvs; rw [hK]; rfl
      rw [e1] at look1
      simp only [Option.getD_none, Option.isSome_none] at look1
      cases hR : R s with
      | none =>
        rw [hR] at look2
        simp only [Option.map_none, Option.getD_none, Option.isSome_none] at look2
        rw [recP_gone hK hR]
        clear hs hw hC hav hfit hM hF hks hn9 hkb hwm hK e1 hR ih
        go_enter Tryd.func47, Tryd.ntmps47
        go_wp2_with fail
        go_ret2
        exact ⟨Only.nilOf ((Only.refl Nil w).alloc _), fun _ => rfl, fun x K' h => by cases h⟩
      | some r =>
        have hX := (recP_new (f := f) hK hR).symm
        obtain ⟨X, hX2⟩ : ∃ X, recP R (f + 1) K s = X := ⟨_, rfl⟩
        rw [hX2]
        rw [hX2] at hX
        rw [hR] at look2
        simp only [Option.map_some, Option.getD_some, Option.isSome_some, rcVal] at look2
        have hfs := hM.fields s r hR
        have hsz := (hM.names s r hR).1
        have hFn := hF s r hR
        have hmem := hks s (by rw [hR]; rfl)
        have hav1 : avail ks (updK K s none) ≤ f := by have := avail_lt hmem hK none; omega
        have hfit1 := hfit.put hmem none
        rw [hK] at hfit1
        obtain ⟨nm, ex, bs, fl⟩ := r
        simp only at look2 hX hfs hsz hFn
        obtain ⟨fvs, hfvs⟩ : ∃ x, fv s = x := ⟨_, rfl⟩
        rw [hfvs] at look2 hfs
        have HFS := Lib.hid hfs
        obtain ⟨aoG, capG, hFs⟩ := hfs.slice
        subst hFs
        obtain ⟨nF, hnF⟩ : ∃ x, fl.length = x := ⟨_, rfl⟩
        rw [hnF] at look2
        have HNF := Lib.hid hnF
        have HNS := Lib.hid (show nF ≤ 1000 by rw [← hnF]; exact hFn)
        have HSZ := Lib.hid hsz
        have HW := Lib.hid hw
        have HKS := Lib.hid hmem
        have HSS := Lib.hid hs
        have HKB := Lib.hid hkb
        have HN9 := Lib.hid hn9
        have HREC := Lib.hid ih
        have HAV1 := Lib.hid hav1
        have HFIT1 := Lib.hid hfit1
        obtain ⟨bx, hbx⟩ : ∃ z, w.heap.size = z := ⟨_, rfl⟩
        have hB := Blk.new w #[.string nm, .bool ex, .string bs, .slice aoG nF capG] 49
        have hoA : Only Nil w (w.alloc (.cells #[.string nm, .bool ex, .string bs, .slice aoG nF capG] 49)) := (Only.refl Nil w).alloc _
        have hCA := hC.go hoA
        obtain ⟨wA, hwA⟩ : ∃ z, w.alloc (.cells #[.string nm, .bool ex, .string bs, .slice aoG nF capG] 49) = z := ⟨_, rfl⟩
        rw [hwA, hbx] at hB
        rw [hwA] at hoA hCA
        obtain ⟨wT, hrun, hM9, ho9⟩ := hCA.map.put Tryd.underlying67 s hs (.int .i64 (-1)) (by have := hfit; unfold Fits9 at this; omega)
        rw [e1] at hM9
        rw [show (.int .i64 (-1) : Value) = knV none from rfl, kvs_upd] at hM9
        have hbk : ¬ M.One kb bx := fun h => by
          have h1 : bx = kb := h
          have h2 := hC.map.lt
          omega
        have hB5 := hB.kept ho9 hbk
        have hC1 : CAt wT cb kb mv (updK K s none) (m + 1) := ⟨hCA.blk.kept ho9 (fun h => hCA.ne h), hM9, hCA.ne⟩
        have hT : Only (M.One kb) w wT := (Only.nilOf hoA).trans ho9 (fun _ _ h => h)
        have HC1 := Lib.hid hC1
        have HT := Lib.hid hT
        have d0 : wA.cell? ⟨cb, 0, none⟩ = some mv := hCA.blk.cell 0
        have d1 : wA.cell? ⟨cb, 1, none⟩ = some (.map (some kb)) := hCA.blk.cell 1
        have dlt := hCA.blk.lt
        have y0 : wA.cell? ⟨bx, 2, none⟩ = some (.string bs) := hB.cell 2
        have x2 : wT.cell? ⟨bx, 2, none⟩ = some (.string bs) := hB5.cell 2
        have HWA := Lib.hid hwA
        have HBX := Lib.hid hbx
        have HRUN := Lib.hid hrun
        have HX := Lib.hid hX
        clear hs hw hC hav hfit hM hF hks hn9 hkb hwm hK e1 hR ih hX hX2 hfs hsz hFn hmem hav1 hfit1 hnF hfvs hB hoA hCA hwA hbx hM9 ho9 hbk hC1 hT hrun
        go_enter Tryd.func47, Tryd.ntmps47
        go_upto_region 7 with fail
        rw [HBX.out]
        rw [HWA.out]
        have hrun := HRUN.out
        go_upto_region 9 with fail
        clear hrun look1 look2 c0 c1 d0 d1 y0
        by_cases hb : (bs.toList == []) = true
        · have hR2 := HX.out
          rw [if_pos hb, Option.bind_some] at hR2
          have HR2 := Lib.hid hR2
          have HC2 := HC1
          have HF2 : Hid (Fits9 ks (updK K s none) (m + 1)) := HFIT1
          have HA2 := HAV1
          have HA0 : Hid (0 ≤ 16384) := Lib.hid (Nat.zero_le _)
          clear hR2
          have HB5 := Lib.hid hB5
          obtain ⟨aoF, capF, offF, bF, ovs, eF, p0, p1, p2, p3, p4, p5⟩ := HFS.out.inv
          rw [HNF.out] at eF
          simp only [Value.slice.injEq, true_and] at eF
          obtain ⟨rfl, rfl⟩ := eF
          have x3 : wT.cell? ⟨bx, 3, none⟩ = some (.slice aoG nF capG) := hB5.cell 3
          have HP0 := Lib.hid p0
          have HP1 := Lib.hid p1
          have HP3 := Lib.hid p3
          have HP4 := Lib.hid p4
          have HP5 := Lib.hid p5
          clear p0 p1 p2 p3 p4 p5 hB5
          go_wp2_with fail
          clear x3
          go_loopg [10, 62] nF (fun g a i wr => ∃ (q acc : Nat) (Kq : Kn) (mq : Nat), i = .int .i64 (q : Int) ∧ a = .int .i64 (acc : Int) ∧ q ≤ nF ∧ g = nF - q ∧ acc ≤ 16384 ∧ Only (M.One kb) wT wr ∧ CAt wr cb kb mv Kq mq ∧ Fits9 ks Kq mq ∧ avail ks Kq ≤ f ∧
            (sumP (tyP (recP R f)) (fl.drop q) acc Kq).map (fun p => (p.1, updK p.2 s (some p.1))) = X)
          case atStart => exact ⟨0, 0, _, _, rfl, rfl, Nat.zero_le _, rfl, HA0.out, Only.refl _ _, HC2.out, HF2.out, HA2.out, HR2.out⟩
          case round =>
            obtain ⟨q, acc, Kq, mq, rfl, rfl, hq, hg, hacc, ho, hCq, hFq, hAq, hsum⟩ := hrel
            have HG := Lib.hid hg
            have HO := Lib.hid ho
            have HACC := Lib.hid hacc
            have HCq := Lib.hid hCq
            have HFq := Lib.hid hFq
            have HAq := Lib.hid hAq
            have q0 : (0 : Int) ≤ (q : Int) := Int.natCast_nonneg _
            have hO0 : Only (GeB B) w0 wr := (HW.out.trans HT.out (fun k _ h => one_ge HKB.out k h)).trans ho (fun k _ h => one_ge HKB.out k h)
            by_cases hqm : q < nF
            · have q1 : (q : Int) < (nF : Int) := by omega
              obtain ⟨x, hx⟩ : ∃ x, fl[q]? = some x := ⟨_, List.getElem?_eq_getElem (by rw [HNF.out]; exact hqm)⟩
              have e1 := HP0.out (by rw [HNF.out]; omega)
              subst e1
              have hbF : ¬ GeB B bF := fun h => by have := HP1.out (by rw [HNF.out]; omega); unfold LtB at this; unfold GeB at h; omega
              have a1 := (HP4.out q x hx).kept hO0 (fun _ => hbF)
              unfold vrCells at a1
              have b0 := a1.get0
              have b1 := a1.get 1 rfl
              have b2 := a1.get 2 rfl
              have b3 := a1.get 3 rfl
              have b4 := a1.get 4 rfl
              have b5 := a1.get 5 rfl
              have hdrop : fl.drop q = x :: fl.drop (q + 1) := by
                have hk := (List.getElem?_eq_some_iff.1 hx).1
                rw [List.drop_eq_getElem_cons hk, (List.getElem?_eq_some_iff.1 hx).2]
              rw [hdrop] at hsum
              have hsx := HP3.out x (List.mem_of_getElem? hx)
              obtain ⟨Y, hY⟩ : ∃ y, tyP (recP R f) x.t Kq = y := ⟨_, rfl⟩
              unfold sumP at hsum
              rw [hY] at hsum
              have HYLE := Lib.hid (fun y K' (e : Y = some (y, K')) => tyP_le (R := R) (f := f) (hY.trans e))
              have HYD := Lib.hid (fun y K' (e : Y = some (y, K')) => tyP_dom (recP_dom R f) x.t Kq y K' (hY.trans e))
              have C := Lib.hid (fun w' (h : Only Nil wr w') => by
                have := wordsT_any HREC.out HKB.out (HP5.out q x hx) x.t.form x.t.n x.t.name Kq w' mq hsx.2 (hO0.trans h (fun _ _ h => h.elim)) (hCq.go h) hAq hFq
                rw [Ty.eta, hY] at this
                exact this)
              obtain ⟨aoT, capT, eT⟩ := (HP5.out q x hx).slice
              rw [eT] at b5 C
              obtain ⟨m3, hm3⟩ : ∃ x', x.t.of.length = x' := ⟨_, rfl⟩
              rw [hm3] at b5 C
              have HSUM := Lib.hid hsum
              clear a1 hx hsum hsx hY eT hm3 hg ho hacc hq hCq hFq hAq hO0 hbF hdrop
              go_wp2_with fail
              refine (C.out _ ((Only.refl Nil wr).alloc _)).mono ?_
              rintro e w6 ⟨ho6, hno, hye⟩
              have HO6 := Lib.hid (HO.out.trans ((Only.nilOf (S := M.One kb) ((Only.refl Nil wr).alloc _)).trans ho6 (fun _ _ h => h)) (fun _ _ h => h))
              clear ho6 C b0 b1 b2 b3 b4 b5
              cases Y with
              | none =>
                have he := hno rfl
                subst he
                have hx := HSUM.out
                have hx : none = X := hx
                clear HSUM HR2 hno hye
                subst hx
                go_wp2_with fail
                go_ret2
                exact ⟨HT.out.trans HO6.out (fun _ _ h => h), fun _ => rfl, fun x K' h => by cases h⟩
              | some y =>
                obtain ⟨z, K3⟩ := y
                obtain ⟨he, m', hC3, hF3⟩ := hye z K3 rfl
                subst he
                have hzle := HYLE.out z K3 rfl
                have hA3 := Nat.le_trans (avail_le (HYD.out z K3 rfl)) HAq.out
                obtain ⟨p, hp⟩ : ∃ p, acc + z = p := ⟨_, rfl⟩
                have wm : IntKind.i64.wrap ((acc : Int) + (z : Int)) = (p : Int) := by
                  have := HACC.out
                  rw [IntKind.wrap]
                  simp [IntKind.bits, IntKind.signed]; omega
                have hx := HSUM.out
                have hx : (if acc + z ≤ 16384 then sumP (tyP (recP R f)) (fl.drop (q + 1)) (acc + z) K3 else none).map (fun p => (p.1, updK p.2 s (some p.1))) = X := hx
                rw [hp] at hx
                have HC3 := Lib.hid hC3
                have HF3 := Lib.hid hF3
                have HA3 := Lib.hid hA3
                clear HSUM hno hye hp HYLE HYD hzle hC3 hF3 hA3
                by_cases hp4 : p ≤ 16384
                · rw [if_pos hp4] at hx
                  have HX2 := Lib.hid hx
                  have p4 : ¬ (16384 : Int) < (p : Int) := by omega
                  have p5 : decide ((p : Int) > 16384) = false := by simp; omega
                  have HP4' := Lib.hid hp4
                  clear hp4 hx
                  have wq : IntKind.i64.wrap ((q : Int) + 1) = ((q + 1 : Nat) : Int) := by have := HN9.out; have := HNS.out; rw [IntKind.wrap]; simp [IntKind.bits, IntKind.signed]; omega
                  go_wp2_with fail
                  go_roundg (nF - (q + 1))
                  case measure => have := HG.out; omega
                  case rel => exact ⟨q + 1, p, K3, m', rfl, rfl, by omega, rfl, HP4'.out, HO6.out, HC3.out, HF3.out, HA3.out, HX2.out⟩
                · rw [if_neg hp4] at hx
                  clear HR2
                  have hx : none = X := hx
                  subst hx
                  have p4 : (16384 : Int) < (p : Int) := by omega
                  clear hp4
                  go_wp2_with fail
                  go_ret2
                  exact ⟨HT.out.trans HO6.out (fun _ _ h => h), fun _ => rfl, fun x K' h => by cases h⟩
            · have hqe : q = nF := by omega
              subst hqe
              have q1 : (q : Int) ≤ (q : Int) := Int.le_refl _
              rw [List.drop_of_length_le (by rw [HNF.out]; exact Nat.le_refl _)] at hsum
              have hx : some (acc, updK Kq s (some acc)) = X := hsum
              clear HR2 hsum
              subst hx
              have d0 : wr.cell? ⟨cb, 0, none⟩ = some mv := hCq.blk.cell 0
              have d1 : wr.cell? ⟨cb, 1, none⟩ = some (.map (some kb)) := hCq.blk.cell 1
              have dlt := hCq.blk.lt
              obtain ⟨w9, hrun, hM9, ho9⟩ := hCq.map.put Tryd.underlying67 s HSS.out (.int .i64 (acc : Int)) (by have := hFq; unfold Fits9 at this; have := HN9.out; omega)
              rw [show (.int .i64 (acc : Int) : Value) = knV (some acc) from rfl, kvs_upd] at hM9
              rw [show ((kvs Kq s).isSome) = (Kq s).isSome by unfold kvs; cases Kq s <;> rfl] at hM9
              have HM9 := Lib.hid hM9
              have HO9 := Lib.hid ho9
              have HF9 := Lib.hid (hFq.put HKS.out (some acc))
              have HB9 := Lib.hid (hCq.blk.kept ho9 (fun h => hCq.ne h))
              clear hg ho hacc hCq hFq hAq hO0 hM9 ho9
              go_wp2_with fail
              go_ret2
              exact ⟨(HT.out.trans HO.out (fun _ _ h => h)).trans HO9.out (fun _ _ h => h), (fun h => by cases h), fun x' K' h => by simp only [Option.some.injEq, Prod.mk.injEq] at h; obtain ⟨rfl, rfl⟩ := h; exact ⟨rfl, _, ⟨HB9.out, HM9.out, HCq.out.ne⟩, HF9.out⟩⟩
        · have hR2 := HX.out
          rw [if_neg hb] at hR2
          have hb : (bs.toList == []) = false := by simpa using hb
          obtain ⟨Y, hY⟩ : ∃ y, recP R f (updK K s none) bs = y := ⟨_, rfl⟩
          rw [hY] at hR2
          have HYLE := Lib.hid (fun y K' (e : Y = some (y, K')) => recP_le (R := R) (f := f) (hY.trans e))
          have HYD := Lib.hid (fun y K' (e : Y = some (y, K')) => recP_dom R f _ bs y K' (hY.trans e))
          have hO0 : Only (GeB B) w0 wT := HW.out.trans HT.out (fun k _ h => one_ge HKB.out k h)
          have C := Lib.hid (by
            have := HREC.out (updK K s none) bs wT (m + 1) HSZ.out hO0 HC1.out HAV1.out HFIT1.out
            rw [hY] at this
            exact this)
          have HRX := Lib.hid hR2
          have HB5' := Lib.hid hB5
          have hbk2 : bx ≠ kb := fun h => by
            have h1 := HBX.out
            have h2 := HC.out.map.lt
            omega
          clear hR2 hO0 hY hB5
          go_wp2_with fail
          refine C.out.mono ?_
          rintro e wU ⟨hoU, hno, hye⟩
          cases Y with
          | none =>
            have he := hno rfl
            subst he
            have hx := HRX.out
            have hx : none = X := hx
            clear HRX hno hye HX
            subst hx
            have HOU := Lib.hid hoU
            clear hoU
            go_wp2_with fail
            go_ret2
            exact ⟨HT.out.trans HOU.out (fun _ _ h => h), fun _ => rfl, fun x K' h => by cases h⟩
          | some y =>
            obtain ⟨a, K2⟩ := y
            obtain ⟨he, m2, hC2, hF2⟩ := hye a K2 rfl
            subst he
            have hB5 := HB5'.out.kept hoU hbk2
            have hTU := HT.out.trans hoU (fun _ _ h => h)
            have hale := HYLE.out a K2 rfl
            have hA2 := Nat.le_trans (avail_le (HYD.out a K2 rfl)) HAV1.out
            have hx := HRX.out
            rw [Option.bind_some] at hx
            clear HT HC1 x2
            have HT := Lib.hid hTU
            have HC2 := Lib.hid hC2
            have HF2 := Lib.hid hF2
            have HA2 := Lib.hid hA2
            have HA0 := Lib.hid hale
            have HR2 := Lib.hid hx
            obtain ⟨wV, hwV⟩ : ∃ z, wT = z := ⟨_, rfl⟩
            clear hno hye hoU hC2 hF2 hale hA2 hx hTU HYLE HYD HRX HX C HRUN HB5' hwV wV
            have HB5 := Lib.hid hB5
            obtain ⟨aoF, capF, offF, bF, ovs, eF, p0, p1, p2, p3, p4, p5⟩ := HFS.out.inv
            rw [HNF.out] at eF
            simp only [Value.slice.injEq, true_and] at eF
            obtain ⟨rfl, rfl⟩ := eF
            have x3 : wU.cell? ⟨bx, 3, none⟩ = some (.slice aoG nF capG) := hB5.cell 3
            have HP0 := Lib.hid p0
            have HP1 := Lib.hid p1
            have HP3 := Lib.hid p3
            have HP4 := Lib.hid p4
            have HP5 := Lib.hid p5
            clear p0 p1 p2 p3 p4 p5 hB5
            go_wp2_with fail
            clear x3
            go_loopg [10, 62] nF (fun g a i wr => ∃ (q acc : Nat) (Kq : Kn) (mq : Nat), i = .int .i64 (q : Int) ∧ a = .int .i64 (acc : Int) ∧ q ≤ nF ∧ g = nF - q ∧ acc ≤ 16384 ∧ Only (M.One kb) wU wr ∧ CAt wr cb kb mv Kq mq ∧ Fits9 ks Kq mq ∧ avail ks Kq ≤ f ∧
              (sumP (tyP (recP R f)) (fl.drop q) acc Kq).map (fun p => (p.1, updK p.2 s (some p.1))) = X)
            case atStart => exact ⟨0, a, _, _, rfl, rfl, Nat.zero_le _, rfl, HA0.out, Only.refl _ _, HC2.out, HF2.out, HA2.out, HR2.out⟩
            case round =>
              obtain ⟨q, acc, Kq, mq, rfl, rfl, hq, hg, hacc, ho, hCq, hFq, hAq, hsum⟩ := hrel
              have HG := Lib.hid hg
              have HO := Lib.hid ho
              have HACC := Lib.hid hacc
              have HCq := Lib.hid hCq
              have HFq := Lib.hid hFq
              have HAq := Lib.hid hAq
              have q0 : (0 : Int) ≤ (q : Int) := Int.natCast_nonneg _
              have hO0 : Only (GeB B) w0 wr := (HW.out.trans HT.out (fun k _ h => one_ge HKB.out k h)).trans ho (fun k _ h => one_ge HKB.out k h)
              by_cases hqm : q < nF
              · have q1 : (q : Int) < (nF : Int) := by omega
                obtain ⟨x, hx⟩ : ∃ x, fl[q]? = some x := ⟨_, List.getElem?_eq_getElem (by rw [HNF.out]; exact hqm)⟩
                have e1 := HP0.out (by rw [HNF.out]; omega)
                subst e1
                have hbF : ¬ GeB B bF := fun h => by have := HP1.out (by rw [HNF.out]; omega); unfold LtB at this; unfold GeB at h; omega
                have a1 := (HP4.out q x hx).kept hO0 (fun _ => hbF)
                unfold vrCells at a1
                have b0 := a1.get0
                have b1 := a1.get 1 rfl
                have b2 := a1.get 2 rfl
                have b3 := a1.get 3 rfl
                have b4 := a1.get 4 rfl
                have b5 := a1.get 5 rfl
                have hdrop : fl.drop q = x :: fl.drop (q + 1) := by
                  have hk := (List.getElem?_eq_some_iff.1 hx).1
                  rw [List.drop_eq_getElem_cons hk, (List.getElem?_eq_some_iff.1 hx).2]
                rw [hdrop] at hsum
                have hsx := HP3.out x (List.mem_of_getElem? hx)
                obtain ⟨Y, hY⟩ : ∃ y, tyP (recP R f) x.t Kq = y := ⟨_, rfl⟩
                unfold sumP at hsum
                rw [hY] at hsum
                have HYLE := Lib.hid (fun y K' (e : Y = some (y, K')) => tyP_le (R := R) (f := f) (hY.trans e))
                have HYD := Lib.hid (fun y K' (e : Y = some (y, K')) => tyP_dom (recP_dom R f) x.t Kq y K' (hY.trans e))
                have C := Lib.hid (fun w' (h : Only Nil wr w') => by
                  have := wordsT_any HREC.out HKB.out (HP5.out q x hx) x.t.form x.t.n x.t.name Kq w' mq hsx.2 (hO0.trans h (fun _ _ h => h.elim)) (hCq.go h) hAq hFq
                  rw [Ty.eta, hY] at this
                  exact this)
                obtain ⟨aoT, capT, eT⟩ := (HP5.out q x hx).slice
                rw [eT] at b5 C
                obtain ⟨m3, hm3⟩ : ∃ x', x.t.of.length = x' := ⟨_, rfl⟩
                rw [hm3] at b5 C
                have HSUM := Lib.hid hsum
                clear a1 hx hsum hsx hY eT hm3 hg ho hacc hq hCq hFq hAq hO0 hbF hdrop
                go_wp2_with fail
                refine (C.out _ ((Only.refl Nil wr).alloc _)).mono ?_
                rintro e w6 ⟨ho6, hno, hye⟩
                have HO6 := Lib.hid (HO.out.trans ((Only.nilOf (S := M.One kb) ((Only.refl Nil wr).alloc _)).trans ho6 (fun _ _ h => h)) (fun _ _ h => h))
                clear ho6 C b0 b1 b2 b3 b4 b5
                cases Y with
                | none =>
                  have he := hno rfl
                  subst he
                  have hx := HSUM.out
                  have hx : none = X := hx
                  clear HSUM HR2 hno hye
                  subst hx
                  go_wp2_with fail
                  go_ret2
                  exact ⟨HT.out.trans HO6.out (fun _ _ h => h), fun _ => rfl, fun x K' h => by cases h⟩
                | some y =>
                  obtain ⟨z, K3⟩ := y
                  obtain ⟨he, m', hC3, hF3⟩ := hye z K3 rfl
                  subst he
                  have hzle := HYLE.out z K3 rfl
                  have hA3 := Nat.le_trans (avail_le (HYD.out z K3 rfl)) HAq.out
                  obtain ⟨p, hp⟩ : ∃ p, acc + z = p := ⟨_, rfl⟩
                  have wm : IntKind.i64.wrap ((acc : Int) + (z : Int)) = (p : Int) := by
                    have := HACC.out
                    rw [IntKind.wrap]
                    simp [IntKind.bits, IntKind.signed]; omega
                  have hx := HSUM.out
                  have hx : (if acc + z ≤ 16384 then sumP (tyP (recP R f)) (fl.drop (q + 1)) (acc + z) K3 else none).map (fun p => (p.1, updK p.2 s (some p.1))) = X := hx
                  rw [hp] at hx
                  have HC3 := Lib.hid hC3
                  have HF3 := Lib.hid hF3
                  have HA3 := Lib.hid hA3
                  clear HSUM hno hye hp HYLE HYD hzle hC3 hF3 hA3
                  by_cases hp4 : p ≤ 16384
                  · rw [if_pos hp4] at hx
                    have HX2 := Lib.hid hx
                    have p4 : ¬ (16384 : Int) < (p : Int) := by omega
                    have p5 : decide ((p : Int) > 16384) = false := by simp; omega
                    have HP4' := Lib.hid hp4
                    clear hp4 hx
                    have wq : IntKind.i64.wrap ((q : Int) + 1) = ((q + 1 : Nat) : Int) := by have := HN9.out; have := HNS.out; rw [IntKind.wrap]; simp [IntKind.bits, IntKind.signed]; omega
                    go_wp2_with fail
                    go_roundg (nF - (q + 1))
                    case measure => have := HG.out; omega
                    case rel => exact ⟨q + 1, p, K3, m', rfl, rfl, by omega, rfl, HP4'.out, HO6.out, HC3.out, HF3.out, HA3.out, HX2.out⟩
                  · rw [if_neg hp4] at hx
                    clear HR2
                    have hx : none = X := hx
                    subst hx
                    have p4 : (16384 : Int) < (p : Int) := by omega
                    clear hp4
                    go_wp2_with fail
                    go_ret2
                    exact ⟨HT.out.trans HO6.out (fun _ _ h => h), fun _ => rfl, fun x K' h => by cases h⟩
              · have hqe : q = nF := by omega
                subst hqe
                have q1 : (q : Int) ≤ (q : Int) := Int.le_refl _
                rw [List.drop_of_length_le (by rw [HNF.out]; exact Nat.le_refl _)] at hsum
                have hx : some (acc, updK Kq s (some acc)) = X := hsum
                clear HR2 hsum
                subst hx
                have d0 : wr.cell? ⟨cb, 0, none⟩ = some mv := hCq.blk.cell 0
                have d1 : wr.cell? ⟨cb, 1, none⟩ = some (.map (some kb)) := hCq.blk.cell 1
                have dlt := hCq.blk.lt
                obtain ⟨w9, hrun, hM9, ho9⟩ := hCq.map.put Tryd.underlying67 s HSS.out (.int .i64 (acc : Int)) (by have := hFq; unfold Fits9 at this; have := HN9.out; omega)
                rw [show (.int .i64 (acc : Int) : Value) = knV (some acc) from rfl, kvs_upd] at hM9
                rw [show ((kvs Kq s).isSome) = (Kq s).isSome by unfold kvs; cases Kq s <;> rfl] at hM9
                have HM9 := Lib.hid hM9
                have HO9 := Lib.hid ho9
                have HF9 := Lib.hid (hFq.put HKS.out (some acc))
                have HB9 := Lib.hid (hCq.blk.kept ho9 (fun h => hCq.ne h))
                clear hg ho hacc hCq hFq hAq hO0 hM9 ho9
                go_wp2_with fail
                go_ret2
                exact ⟨(HT.out.trans HO.out (fun _ _ h => h)).trans HO9.out (fun _ _ h => h), (fun h => by cases h), fun x' K' h => by simp only [Option.some.injEq, Prod.mk.injEq] at h; obtain ⟨rfl, rfl⟩ := h; exact ⟨rfl, _, ⟨HB9.out, HM9.out, HCq.out.ne⟩, HF9.out⟩⟩
end Go.Proofs.YtcbeibhmjokecaaDoor
