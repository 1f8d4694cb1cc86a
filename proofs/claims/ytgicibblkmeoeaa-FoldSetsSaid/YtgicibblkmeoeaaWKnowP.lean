/- Lists of elements; what is known: the program. -/
import Derived.Test.YtgicibblkmeoeaaProg
import Derived.Test.YtgicibblkmeoeaaWList
set_option linter.unusedSimpArgs false
set_option linter.unusedVariables false
namespace Go.Proofs.Ytgicibblkmeoeaa
open Go.RowKit M


set_option maxRecDepth 10000 in
set_option maxHeartbeats 1600000 in
theorem areElements_any {U : Nat → Prop} {w0 : World} {xv : Value} {l : List Ex} (h : ExS U w0 xv l) (w : World) (hw : Only Nil w0 w) :
    Calls Try.prog 107 #[xv] w fun e w' => e = .returned (.bool (l.all elemM)) ∧ Only Nil w w' := by
  obtain ⟨l, ao, cap, off, b, ovs, xvs, h0, h1, hb, hn, hs, hc, ht, hr⟩ := h
  obtain ⟨na, hna⟩ : ∃ x, l.length = x := ⟨_, rfl⟩
  rw [hna] at h0 hn ⊢
  have HW := Lib.hid hw
  have H0 := Lib.hid h0
  have HA := Lib.hid hna
  have HN := Lib.hid hn
  clear hw h0 h1 hb hna hn hs
  go_enter Try.func107, Try.ntmps107
  go_wp2_with fail
  go_loopg [7] na (fun g j wr => ∃ k : Nat, j = .int .i64 (k : Int) ∧ k ≤ na ∧ g = na - k ∧ Only Nil w wr ∧ AllTo elemM k l)
  case atStart => exact ⟨0, rfl, Nat.zero_le _, rfl, Only.refl Nil w, AllTo.zero _ _⟩
  case round =>
    obtain ⟨k, rfl, hk, hg, ho, hall⟩ := hrel
    have HG := Lib.hid hg
    have HO := Lib.hid ho
    have HL := Lib.hid hall
    clear hg ho hall
    have k0 : (0 : Int) ≤ (k : Int) := Int.natCast_nonneg _
    by_cases hkn : k < na
    · have k1 : (k : Int) < (na : Int) := by omega
      obtain ⟨t, htk⟩ : ∃ t, l[k]? = some t := ⟨_, List.getElem?_eq_getElem (by rw [HA.out]; exact hkn)⟩
      have e1 := H0.out (by omega)
      subst e1
      have hO : Only Nil w0 wr := Nil.trans HW.out HO.out
      have a1 := (hc k t htk).kept hO (fun _ h => h)
      unfold exCells at a1
      have b0 := a1.get0
      have b1 := a1.get 1 rfl
      have b2 := a1.get 2 rfl
      have b3 := a1.get 3 rfl
      have b4 := a1.get 4 rfl
      have b5 := a1.get 5 rfl
      have b6 := a1.get 6 rfl
      have b7 := a1.get 7 rfl
      obtain ⟨ao3, cap3, e3⟩ := (ht k t htk).slice
      obtain ⟨ao9, cap9, e9⟩ := (hr k t htk).slice
      rw [e3] at b4
      rw [e9] at b7
      obtain ⟨m3, hm3⟩ : ∃ x, t.t.of.length = x := ⟨_, rfl⟩
      rw [hm3] at b4
      obtain ⟨m9, hm9⟩ : ∃ x, t.x.length = x := ⟨_, rfl⟩
      rw [hm9] at b7
      have HT := Lib.hid htk
      by_cases g : t.op = 25
      · have HR : Hid (elemM t = knownM t.x 1) := Lib.hid (by unfold elemM; simp [g])
        obtain ⟨r, hr0⟩ : ∃ r, knownM t.x 1 = r := ⟨_, rfl⟩
        replace HR : Hid (elemM t = r) := Lib.hid (HR.out.trans hr0)
        have C := fun w' (h : Only Nil w0 w') => knownP_any (hr k t htk) 1 w' h
        rw [e9, hm9, hr0] at C
        have HC := Lib.hid C
        rw [g] at b0
        clear a1 hr hc ht htk hk k0 e3 hm3 e9 hm9 hO hr0 g C
        go_wp2_with fail
        refine (HC.out _ (Nil.trans HW.out (HO.out.alloc _))).mono ?_
        rintro e w3 ⟨rfl, ho3⟩
        have HO3 : Hid (Only Nil w w3) := Lib.hid (Nil.trans (HO.out.alloc _) ho3)
        clear ho3 HC b0 b1 b2 b3 b4 b5 b6 b7
        cases r
        · have E := Lib.hid (show l.all elemM = false from all_no HT.out HR.out)
          go_wp2_with fail
          go_ret
          exact ⟨retB E.out, HO3.out⟩
        · have HL2 := Lib.hid (HL.out.next HT.out HR.out)
          go_wp2_with fail
          go_roundg (na - (k + 1))
          case measure => have := HG.out; omega
          case rel => exact ⟨k + 1, next_int hkn HN.out (by decide), by omega, rfl, HO3.out, HL2.out⟩
      · by_cases g2 : t.op = 26
        · have HR : Hid (elemM t = knownM t.x 2) := Lib.hid (by unfold elemM; simp [g2])
          obtain ⟨r, hr0⟩ : ∃ r, knownM t.x 2 = r := ⟨_, rfl⟩
          replace HR : Hid (elemM t = r) := Lib.hid (HR.out.trans hr0)
          have C := fun w' (h : Only Nil w0 w') => knownP_any (hr k t htk) 2 w' h
          rw [e9, hm9, hr0] at C
          have HC := Lib.hid C
          rw [g2] at b0
          clear a1 hr hc ht htk hk k0 e3 hm3 e9 hm9 hO hr0 g C
          go_wp2_with fail
          refine (HC.out _ (Nil.trans HW.out (HO.out.alloc _))).mono ?_
          rintro e w3 ⟨rfl, ho3⟩
          have HO3 : Hid (Only Nil w w3) := Lib.hid (Nil.trans (HO.out.alloc _) ho3)
          clear ho3 HC b0 b1 b2 b3 b4 b5 b6 b7
          cases r
          · have E := Lib.hid (show l.all elemM = false from all_no HT.out HR.out)
            go_wp2_with fail
            go_ret
            exact ⟨retB E.out, HO3.out⟩
          · have HL2 := Lib.hid (HL.out.next HT.out HR.out)
            go_wp2_with fail
            go_roundg (na - (k + 1))
            case measure => have := HG.out; omega
            case rel => exact ⟨k + 1, next_int hkn HN.out (by decide), by omega, rfl, HO3.out, HL2.out⟩
        · have HR : Hid (elemM t = false) := Lib.hid (by unfold elemM; simp [g, g2])
          have g1 : (t.op == 25) = false := by simpa using g
          have g3 : (t.op == 26) = false := by simpa using g2
          have E := Lib.hid (show l.all elemM = false from all_no HT.out HR.out)
          clear a1 hr hc ht htk hk k0 e3 hm3 e9 hm9 hO g g2
          go_wp2_with fail
          go_ret
          exact ⟨retB E.out, HO.out.alloc _⟩
    · have hkn' : k = na := by omega
      subst hkn'
      have k1 : (k : Int) ≤ (k : Int) := Int.le_refl _
      have EA := Lib.hid (HL.out.all (by rw [HA.out]; exact Nat.le_refl _))
      clear hr hc ht
      go_wp2_with fail
      go_ret
      exact ⟨retB EA.out, HO.out⟩

set_option maxRecDepth 10000 in
set_option maxHeartbeats 3200000 in
theorem isKnown_any {U : Nat → Prop} {w0 : World} {ov xv : Value} (x : Ex) (h : ExS U w0 xv x.x) (w : World) (hw : Only Nil w0 w) :
    Calls Try.prog 57 #[.agg #[.int .i64 x.op, .int .i64 x.t.form, .int .i64 x.t.n, .string x.t.name, ov, .int .i32 x.i, .string x.s, xv]] w fun e w' => e = .returned (.bool (foldB x)) ∧ Only Nil w w' := by
  have CE := fun w' (h' : Only Nil w0 w') => areElements_any h w' h'
  have C1 := fun w' (h' : Only Nil w0 w') => knownP_any h 1 w' h'
  have C2 := fun w' (h' : Only Nil w0 w') => knownP_any h 2 w' h'
  have HW := Lib.hid hw
  obtain ⟨op, ⟨f, n, s, of⟩, i, st, l⟩ := x
  obtain ⟨ao, cap, e⟩ := h.slice
  subst e
  simp only [Ex.op, Ex.t, Ex.i, Ex.s, Ex.x, Ty.form, Ty.n, Ty.name, Ty.of] at CE C1 C2 ⊢
  obtain ⟨m, hm⟩ : ∃ m, l.length = m := ⟨_, rfl⟩
  rw [hm] at CE C1 C2 ⊢
  clear h hm hw
  have hf : op = 24 ∨ (op = 7 ∨ op = 8 ∨ op = 27 ∨ op = 28 ∨ op = 32 ∨ op = 33) ∨ (op = 9 ∨ op = 10 ∨ op = 11 ∨ op = 12 ∨ op = 13 ∨ op = 14 ∨ op = 15 ∨ op = 16 ∨ op = 17 ∨ op = 18 ∨ op = 19 ∨ op = 20 ∨ op = 21 ∨ op = 22 ∨ op = 29 ∨ op = 30 ∨ op = 31) ∨ ((op == 24) = false ∧ (op == 7) = false ∧ (op == 8) = false ∧ (op == 27) = false ∧ (op == 28) = false ∧ (op == 32) = false ∧ (op == 33) = false ∧ (op == 9) = false ∧ (op == 10) = false ∧ (op == 11) = false ∧ (op == 12) = false ∧ (op == 13) = false ∧ (op == 14) = false ∧ (op == 15) = false ∧ (op == 16) = false ∧ (op == 17) = false ∧ (op == 18) = false ∧ (op == 19) = false ∧ (op == 20) = false ∧ (op == 21) = false ∧ (op == 22) = false ∧ (op == 29) = false ∧ (op == 30) = false ∧ (op == 31) = false) := by
    simp only [beq_eq_false_iff_ne]; omega
  rcases hf with rfl | h1 | h2 | h3
  · have E := Lib.hid (show foldB (.mk 24 (.mk f n s of) i st l) = l.all elemM from rfl)
    rw [E.out]
    have HC := Lib.hid CE
    clear CE C1 C2
    go_enter Try.func57, Try.ntmps57
    go_wp2_with fail
    refine (HC.out _ (HW.out.alloc _)).mono ?_
    rintro e w3 ⟨rfl, ho3⟩
    have HO3 : Hid (Only Nil w w3) := Lib.hid (Nil.trans (alloc_nil _ _) ho3)
    clear HC ho3
    go_wp2_with fail
    go_ret
    exact ⟨rfl, HO3.out⟩
  · have HC := Lib.hid C1
    clear CE C1 C2
    obtain ⟨r, hr⟩ : ∃ r, knownM l 1 = r := ⟨_, rfl⟩
    have E : Hid (foldB (.mk op (.mk f n s of) i st l) = r) := Lib.hid (by rw [← hr]; rcases h1 with rfl | rfl | rfl | rfl | rfl | rfl <;> simp [foldB, arM, Ex.op, Ex.x])
    rw [E.out]
    rw [hr] at HC
    clear hr E
    rcases h1 with rfl | rfl | rfl | rfl | rfl | rfl
    all_goals
      go_enter Try.func57, Try.ntmps57
      go_wp2_with fail
      refine (HC.out _ (HW.out.alloc _)).mono ?_
      rintro e w3 ⟨rfl, ho3⟩
      have HO3 : Hid (Only Nil w w3) := Lib.hid (Nil.trans (alloc_nil _ _) ho3)
      clear HC ho3
      go_wp2_with fail
      go_ret
      exact ⟨rfl, HO3.out⟩
  · have HC := Lib.hid C2
    clear CE C1 C2
    obtain ⟨r, hr⟩ : ∃ r, knownM l 2 = r := ⟨_, rfl⟩
    have E : Hid (foldB (.mk op (.mk f n s of) i st l) = r) := Lib.hid (by rw [← hr]; rcases h2 with rfl | rfl | rfl | rfl | rfl | rfl | rfl | rfl | rfl | rfl | rfl | rfl | rfl | rfl | rfl | rfl | rfl <;> simp [foldB, arM, Ex.op, Ex.x])
    rw [E.out]
    rw [hr] at HC
    clear hr E
    rcases h2 with rfl | rfl | rfl | rfl | rfl | rfl | rfl | rfl | rfl | rfl | rfl | rfl | rfl | rfl | rfl | rfl | rfl
    all_goals
      go_enter Try.func57, Try.ntmps57
      go_wp2_with fail
      refine (HC.out _ (HW.out.alloc _)).mono ?_
      rintro e w3 ⟨rfl, ho3⟩
      have HO3 : Hid (Only Nil w w3) := Lib.hid (Nil.trans (alloc_nil _ _) ho3)
      clear HC ho3
      go_wp2_with fail
      go_ret
      exact ⟨rfl, HO3.out⟩
  · have E : Hid (foldB (.mk op (.mk f n s of) i st l) = false) := Lib.hid (by
      simp only [beq_eq_false_iff_ne] at h3
      have ha : arM op = 0 := by unfold arM; rw [if_neg (by omega), if_neg (by omega)]
      have h24 : op ≠ 24 := by omega
      simp [foldB, Ex.op, Ex.x, h24, ha])
    rw [E.out]
    obtain ⟨z0, z1, z2, z3, z4, z5, z6, z7, z8, z9, z10, z11, z12, z13, z14, z15, z16, z17, z18, z19, z20, z21, z22, z23⟩ := h3
    clear CE C1 C2 E
    go_enter Try.func57, Try.ntmps57
    go_wp2_with fail
    go_ret
    exact ⟨rfl, alloc_nil _ _⟩
end Go.Proofs.Ytgicibblkmeoeaa
