/- A record's fields, its bases' first: the document's Fields. -/
import Derived.Test.YtcbeibhmjokecaaDoorYApp
import Derived.Test.YtcbeibhmjokecaaDoorYFldP
set_option linter.unusedSimpArgs false
set_option linter.unusedVariables false
namespace Go.Proofs.YtcbeibhmjokecaaDoor
open Go.RowKit M

theorem fieldsM_len {R : Recs} (hF : ∀ s r, R s = some r → r.fields.length ≤ 1000) : ∀ {k : Nat} {s : ByteArray} {l : List Vr}, fieldsM R k s = some l → l.length ≤ k * 1000 := by
  intro k s l h
  rw [fieldsM_chain] at h
  obtain ⟨c, hc, e⟩ := Option.map_eq_some_iff.1 h
  subst e
  have h1 := chainM_len hc
  have h2 := flatC_len (m := 1000) (c := c) (fun r hr => by obtain ⟨s, hs⟩ := h1.2 r hr; exact hF s r hs)
  exact Nat.le_trans h2 (Nat.mul_le_mul_right _ h1.1)
theorem wpList_append_run {P : Program} {w : World} {ops : Array Oper} {rest : List Oper} {o : Oper} {a : Act} {Q : Exit → Act → World → Prop} {v u v' : Value} {w' : World} (hgd : o.guard = none) (s x : Operand) (t : TypeId)
    (ho : o.op = .call { callee := .builtin .append, args := #[s, x], argTypes := #[t, t] }) (hs : a.eval s = v) (hx : a.eval x = u) (hr : (Builtin.append_ #[t, t] o.type #[v, u]).run P w = .ok v' w') (h : wpList P ops Q rest (a.put o.dst v') w') : wpList P ops Q (o :: rest) a w :=
  wpList_plain hgd fun K hK => operWp_append s x t ho hs hx hr (hK _ _ h)
def FldRPost (w : World) (o : Option (List Vr)) (e : Ending) (w' : World) : Prop :=
  ∃ v, e = .returned (.tuple #[v, .bool o.isSome]) ∧ VarS (fun k => k < w'.heap.size) w' v (o.getD []) ∧ Only Nil w w' ∧ RoomV v
theorem RoomV.nil : RoomV (.slice none 0 0) := fun a n c e => by simp only [Value.slice.injEq] at e; omega
set_option maxRecDepth 20000 in
set_option maxHeartbeats 3200000 in
theorem fldR_any {U : Nat → Prop} {w0 : World} {mv : Value} {n : Nat} {R : Recs} {fv : ByteArray → Value} (hM : RMap U w0 mv n R fv) (hF : ∀ s r, R s = some r → r.fields.length ≤ 1000) : ∀ (k : Nat) (s : ByteArray) (w : World), k ≤ 20000 → s.size ≤ maxLen → Only Nil w0 w →
    Calls Tryd.prog 31 #[.string s, mv, .int .i64 (k : Int)] w (FldRPost w (fieldsM R k s)) := by
  intro k
  induction k with
  | zero =>
    intro s w hk hs hw
    have look := (hM.go hw).look2 s hs
    have e0 : fieldsM R 0 s = none := rfl
    rw [e0]
    have c0 : (((0 : Nat) : Int)) = 0 := rfl
    rw [c0]
    clear c0
    cases hR : R s with
    | none =>
      rw [hR] at look
      simp only [Option.map_none, Option.getD_none, Option.isSome_none] at look
      clear hM hF hs hw hR e0
      go_enter Tryd.func31, Tryd.ntmps31
      go_wp2_with fail
      go_ret2
      exact ⟨_, rfl, VarS.nil _ _, (Only.refl Nil w).alloc _, RoomV.nil⟩
    | some r =>
      rw [hR] at look
      simp only [Option.map_some, Option.getD_some, Option.isSome_some, rcVal] at look
      obtain ⟨aoF, capF, hFs⟩ := (hM.fields s r hR).slice
      rw [hFs] at look
      obtain ⟨nF, hnF⟩ : ∃ x, r.fields.length = x := ⟨_, rfl⟩
      rw [hnF] at look
      obtain ⟨nm, ex, bs, fl⟩ := r
      simp only at look
      clear hM hF hs hw hR e0 hFs hnF
      go_enter Tryd.func31, Tryd.ntmps31
      go_wp2_with fail
      go_ret2
      exact ⟨_, rfl, VarS.nil _ _, (Only.refl Nil w).alloc _, RoomV.nil⟩
  | succ k ih =>
    intro s w hk hs hw
    have look := (hM.go hw).look2 s hs
    obtain ⟨X, hX⟩ : ∃ x, fieldsM R (k + 1) s = x := ⟨_, rfl⟩
    rw [hX]
    have HXL := Lib.hid (fun l (e : fieldsM R (k + 1) s = some l) => fieldsM_len hF e)
    have HF2 := Lib.hid (fun b l (e : fieldsM R k b = some l) => fieldsM_len hF e)
    unfold fieldsM at hX
    obtain ⟨kk, hkk⟩ : ∃ x, k + 1 = x := ⟨_, rfl⟩
    have k1 : (1 : Int) ≤ (kk : Int) := by omega
    have wk : IntKind.i64.wrap ((kk : Int) - 1) = (k : Int) := by rw [IntKind.wrap]; simp [IntKind.bits, IntKind.signed]; omega
    have HKK := Lib.hid hkk
    have HK := Lib.hid hk
    have HM := Lib.hid hM
    have HF := Lib.hid hF
    have HW := Lib.hid hw
    rw [hkk]
    cases hR : R s with
    | none =>
      rw [hR] at look hX
      simp only [Option.map_none, Option.getD_none, Option.isSome_none] at look
      have hX : none = X := hX
      subst hX
      clear hM hF hs hw hR hkk hk wk ih
      go_enter Tryd.func31, Tryd.ntmps31
      go_wp2_with fail
      go_ret2
      exact ⟨_, rfl, VarS.nil _ _, (Only.refl Nil w).alloc _, RoomV.nil⟩
    | some r =>
      rw [hR] at look hX
      simp only [Option.map_some, Option.getD_some, Option.isSome_some, rcVal, Option.bind_some] at look hX
      have hsz := (hM.names s r hR).1
      have hfl := hM.fields s r hR
      have hFn := hF s r hR
      obtain ⟨nm, ex, bs, fl⟩ := r
      simp only at look hX hsz hfl hFn
      obtain ⟨fvs, hfvs⟩ : ∃ x, fv s = x := ⟨_, rfl⟩
      rw [hfvs] at look hfl
      have HFL := Lib.hid (hfl.go hw)
      obtain ⟨aoF, capF, hFs⟩ := hfl.slice
      subst hFs
      obtain ⟨nF, hnF⟩ : ∃ x, fl.length = x := ⟨_, rfl⟩
      rw [hnF] at look
      have HNF := Lib.hid hnF
      have HFN := Lib.hid hFn
      have HSZ := Lib.hid hsz
      by_cases hb : (bs.toList == []) = true
      · rw [if_pos hb] at hX
        subst hX
        clear hM hF hs hw hR hkk hk wk ih hsz hfl hnF hFn hfvs
        go_enter Tryd.func31, Tryd.ntmps31
        go_wp2_with fail
        have hB := (Blk.new w #[.string nm, .bool ex, .string bs, .slice aoF nF capF] 49).drew
        have hQ : Only Nil w (w.alloc (.cells #[.string nm, .bool ex, .string bs, .slice aoF nF capF] 49)).drew := ((Only.refl Nil w).alloc _).drew
        obtain ⟨w1, hw1⟩ : ∃ z, w.alloc (.cells #[.string nm, .bool ex, .string bs, .slice aoF nF capF] 49) = z := ⟨_, rfl⟩
        rw [hw1] at hB hQ ⊢
        have c3 : w1.drew.cell? ⟨w.heap.size, 3, none⟩ = some (.slice aoF nF capF) := hB.cell 3
        have c3' : w1.cell? ⟨w.heap.size, 3, none⟩ = some (.slice aoF nF capF) := c3
        obtain ⟨v', w2, hrun, hvs, ho2, hrm⟩ := append_vars (ao := none) (cap := 0) (L := []) (VarS.nil Any w1.drew) (HFL.out.go hQ) (by have := HFN.out; rw [List.length_nil]; omega) 33
        rw [HNF.out] at hrun
        have hrun' : (Builtin.append_ #[33, 33] 33 #[.slice none 0 0, .slice aoF nF capF]).run Tryd.prog w1.drew = .ok v' w2 := hrun
        rw [List.nil_append] at hvs
        have HVS := Lib.hid hvs
        have HO2 := Lib.hid (Nil.trans hQ ho2)
        have HRM := Lib.hid hrm
        clear hrm
        obtain ⟨ao9, cap9, hv9⟩ := hvs.slice
        rw [HNF.out] at hv9
        subst hv9
        clear hB hQ hw1 hrun hvs ho2
        refine wp_region_still_tail 8 (by kernel_rfl) (by kernel_rfl) ?_
        simp only [List.take_succ_cons, List.take_zero, List.drop_succ_cons, List.drop_zero]
        repeat still_step
        refine wpStill_nil ?_
        change wpList _ _ _ _ _ w1.drew
        refine wpList_append_run rfl _ _ 33 rfl rfl rfl hrun' ?_
        clear hrun' c3 c3'
        go_wp2_with fail
        go_ret2
        exact ⟨_, rfl, HVS.out, HO2.out, HRM.out⟩
      · rw [if_neg hb] at hX
        have hb : (bs.toList == []) = false := by simpa using hb
        have HIH := Lib.hid (fun w' (h : Only Nil w0 w') => ih bs w' (by omega) hsz h)
        have HX := Lib.hid hX
        clear hM hF hs hw hR hkk hk ih hsz hfl hnF hFn hfvs hX
        go_enter Tryd.func31, Tryd.ntmps31
        go_wp2_with fail
        refine (HIH.out _ (HW.out.alloc _)).mono ?_
        rintro e w3 ⟨vb, rfl, hvb, ho3, hrv⟩
        have h3 : Only Nil w w3 := Nil.trans ((Only.refl Nil w).alloc _) ho3
        have hB0 := (Blk.new w #[.string nm, .bool ex, .string bs, .slice aoF nF capF] 49).kept ho3 (fun h => h)
        have H3 := Lib.hid h3
        cases hr : fieldsM R k bs with
        | none =>
          have HE : Hid (X = none) := Lib.hid (by rw [← HX.out, hr]; rfl)
          clear hvb ho3 h3 hB0 HIH wk hrv
          have hx := HE.out
          clear HE HX HXL
          subst hx
          simp only [hr, Option.isSome_none]
          go_wp2_with fail
          go_ret2
          exact ⟨_, rfl, VarS.nil _ _, H3.out, RoomV.nil⟩
        | some lb =>
          have HE : Hid (X = some (lb ++ fl)) := Lib.hid (by rw [← HX.out, hr]; rfl)
          have hlb := HF2.out bs lb hr
          rw [hr] at hvb
          simp only [Option.getD_some] at hvb
          obtain ⟨aoB, capB, evb⟩ := hvb.slice
          subst evb
          obtain ⟨nb, hnb⟩ : ∃ x, lb.length = x := ⟨_, rfl⟩
          have HVB := Lib.hid hvb
          have hcap := hrv _ _ _ rfl
          rw [hnb] at hcap
          clear hrv
          have hcap' : (nb : Int) ≤ (capB : Int) := by omega
          have HNB := Lib.hid hnb
          have hB := hB0.drew
          have hQ : Only Nil w w3.drew := h3.drew
          have c3 : w3.drew.cell? ⟨w.heap.size, 3, none⟩ = some (.slice aoF nF capF) := hB.cell 3
          have c3' : w3.cell? ⟨w.heap.size, 3, none⟩ = some (.slice aoF nF capF) := c3
          have hsm : (lb.length + fl.length) * 80 ≤ 140737488355328 := by
            have h1 := HFN.out
            have h2 := HK.out
            have h4 : k * 1000 ≤ 20000000 := by omega
            omega
          obtain ⟨v', w2, hrun, hvs, ho2, hrm⟩ := append_vars (hvb.go ((Only.refl Nil w3).drew)) (HFL.out.go hQ) hsm 33
          rw [HNF.out, hnb] at hrun
          have HVS := Lib.hid hvs
          have HO2 := Lib.hid (Nil.trans hQ ho2)
          have HRM := Lib.hid hrm
          clear hrm
          obtain ⟨ao9, cap9, hv9⟩ := hvs.slice
          obtain ⟨n9, hn9⟩ : ∃ x, (lb ++ fl).length = x := ⟨_, rfl⟩
          rw [hn9] at hv9
          subst hv9
          have hlk : nb ≤ 20000000 := by
            have h2 := HK.out
            have h4 : k * 1000 ≤ 20000000 := by omega
            omega
          clear hvb ho3 h3 hB0 HIH wk hB hQ hsm hvs ho2 hn9 hlb
          have hx := HE.out
          clear HE HX HXL
          subst hx
          rw [hnb]
          simp only [hr, Option.isSome_some]
          clear hr hnb
          have b0 : (0 : Int) ≤ (nb : Int) := Int.natCast_nonneg _
          have b1 : (nb : Int) ≤ (nb : Int) := Int.le_refl _
          go_wp2_with fail
          refine wp_region_still_tail 8 (by kernel_rfl) (by kernel_rfl) ?_
          simp only [List.take_succ_cons, List.take_zero, List.drop_succ_cons, List.drop_zero]
          simp only [World.drew_eq]
          repeat still_step
          refine wpStill_nil ?_
          change wpList _ _ _ _ _ w3.drew
          refine wpList_append_run rfl _ _ 33 rfl rfl rfl hrun ?_
          clear hrun c3 c3'
          go_wp2_with fail
          go_ret2
          exact ⟨_, rfl, HVS.out, HO2.out, HRM.out⟩
/-- The document's Fields. -/
theorem fieldsR_any {U : Nat → Prop} {w0 : World} {mv : Value} {n : Nat} {R : Recs} {fv : ByteArray → Value} (hM : RMap U w0 mv n R fv) (hF : ∀ s r, R s = some r → r.fields.length ≤ 1000) (hn9 : n ≤ 20000) (s : ByteArray) (hs : s.size ≤ maxLen) (w : World) (hw : Only Nil w0 w) :
    Calls Tryd.prog 12 #[.string s, mv] w (FldPost w (fieldsM R n s)) := by
  have len := fun ty => (hM.go hw).len ty
  have C := Lib.hid (fldR_any hM hF n s w hn9 hs hw)
  clear hM hF hn9 hs hw
  go_enter Tryd.func12, Tryd.ntmps12
  go_wp2_with fail
  refine C.out.mono ?_
  rintro e w3 ⟨v, rfl, hv, ho3, _⟩
  obtain ⟨ao, cap, e1⟩ := hv.slice
  obtain ⟨m, hm⟩ : ∃ x, ((fieldsM R n s).getD []).length = x := ⟨_, rfl⟩
  rw [hm] at e1
  subst e1
  have HV := Lib.hid hv
  obtain ⟨b, hb⟩ : ∃ x, (fieldsM R n s).isSome = x := ⟨_, rfl⟩
  have HB := Lib.hid hb
  rw [hb]
  clear C hv hm hb
  go_wp2_with fail
  go_ret2
  exact ⟨_, by rw [HB.out]; rfl, HV.out, ho3⟩
end Go.Proofs.YtcbeibhmjokecaaDoor
