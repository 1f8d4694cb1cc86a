/- FoldTells: whatever expression. -/
import Derived.Test.YtgicibblkmeoeaaProg
import Derived.Test.YtgicibblkmeoeaaWKnown
set_option linter.unusedSimpArgs false
set_option linter.unusedVariables false
namespace Go.Proofs.Ytgicibblkmeoeaa
open Go.RowKit M


set_option maxRecDepth 10000 in
set_option maxHeartbeats 1600000 in
theorem depth_any {Z : Nat → Prop} {w0 : World} {xv : Value} {l : List Ex} (h : ExS Z w0 xv l) : ∀ (op f n i : Int) (nm st : ByteArray) (ov : Value) (m : Nat) (w : World), m ≤ 100 → Only Nil w0 w →
    Calls Try.prog 24 #[.agg #[.int .i64 op, .int .i64 f, .int .i64 n, .string nm, ov, .int .i32 i, .string st, xv], .int .i64 (m : Int)] w fun e w' => (∃ r, e = .returned (.bool r)) ∧ Only Nil w w' := by
  induction h with
  | mk l ao cap off b ovs xvs h0 h1 hb hn hs hc ht hr ih =>
    intro op f n i nm st ov m w hm hw
    obtain ⟨na, hna⟩ : ∃ x, l.length = x := ⟨_, rfl⟩
    rw [hna] at h0 hn ⊢
    have HW := Lib.hid hw
    have H0 := Lib.hid h0
    have HA := Lib.hid hna
    have HN := Lib.hid hn
    clear hw h0 h1 hb hna hn hs
    by_cases hz : m = 0
    · subst hz
      clear ih hc ht hr
      go_enter Try.func24, Try.ntmps24
      go_wp2_with fail
      go_ret
      exact ⟨⟨_, rfl⟩, alloc_nil _ _⟩
    · have hz0 : ((m : Int) == 0) = false := by simp; omega
      have hz1 : (m : Int) - 1 = ((m - 1 : Nat) : Int) := by omega
      by_cases h30 : 30 < na
      · have hz2 : (30 : Int) < (na : Int) := by omega
        clear ih hc ht hr hz hz1
        go_enter Try.func24, Try.ntmps24
        go_wp2_with fail
        go_ret
        exact ⟨⟨_, rfl⟩, alloc_nil _ _⟩
      · have hz2 : decide ((30 : Int) < (na : Int)) = false := by simp; omega
        have hz3 : (na : Int) ≤ 30 := by omega
        clear h30 hz
        obtain ⟨m', hm'⟩ : ∃ x, m - 1 = x := ⟨_, rfl⟩
        rw [hm'] at hz1
        have HM : Hid (m' ≤ 100) := Lib.hid (by omega)
        have wz : wrap64 ((m : Int) - 1) = (m' : Int) := by rw [hz1]; have := HM.out; unfold wrap64; omega
        clear hm hm' hz1
        go_enter Try.func24, Try.ntmps24
        go_wp2_with fail
        go_loopg [5] na (fun g j wr => ∃ k : Nat, j = .int .i64 (k : Int) ∧ k ≤ na ∧ g = na - k ∧ Only Nil w wr ∧ wr.cell? ⟨w.heap.size, 7, none⟩ = some (.slice ao na cap))
        case atStart => exact ⟨0, rfl, Nat.zero_le _, rfl, alloc_nil _ _, by simp⟩
        case round =>
          obtain ⟨k, rfl, hk, hg, ho, bx7⟩ := hrel
          have HG := Lib.hid hg
          have HO := Lib.hid ho
          clear hg ho
          have k0 : (0 : Int) ≤ (k : Int) := Int.natCast_nonneg _
          by_cases hkn : k < na
          · have k1 : (k : Int) < (na : Int) := by omega
            obtain ⟨t, htk⟩ : ∃ t, l[k]? = some t := ⟨_, List.getElem?_eq_getElem (by rw [HA.out]; exact hkn)⟩
            have e1 := H0.out (by omega)
            subst e1
            have hO : Only Nil w0 wr := Nil.trans HW.out HO.out
            have a1 := (hc k t htk).kept hO (fun _ h => h)
            unfold exCells at a1
            have b0 := a1.get0
            have b1 := a1.get 1 rfl
            have b2 := a1.get 2 rfl
            have b3 := a1.get 3 rfl
            have b4 := a1.get 4 rfl
            have b5 := a1.get 5 rfl
            have b6 := a1.get 6 rfl
            have b7 := a1.get 7 rfl
            obtain ⟨ao3, cap3, e3⟩ := (ht k t htk).slice
            obtain ⟨ao9, cap9, e9⟩ := (hr k t htk).slice
            rw [e3] at b4
            rw [e9] at b7
            obtain ⟨m3, hm3⟩ : ∃ x, t.t.of.length = x := ⟨_, rfl⟩
            rw [hm3] at b4
            obtain ⟨m9, hm9⟩ : ∃ x, t.x.length = x := ⟨_, rfl⟩
            rw [hm9] at b7
            have HT := Lib.hid htk
            have C := fun w' (h' : Only Nil w0 w') => ih k t htk t.op t.t.form t.t.n t.i t.t.name t.s (.slice ao3 m3 cap3) m' w' HM.out h'
            rw [e9, hm9] at C
            have HC := Lib.hid C
            clear a1 hr hc ht ih htk hk k0 e3 hm3 e9 hm9 hO C
            go_wp2_with fail

            refine (HC.out _ (Nil.trans HW.out HO.out)).mono ?_
            rintro e w3 ⟨⟨r, rfl⟩, ho3⟩
            have HO3 : Hid (Only Nil w w3) := Lib.hid (Nil.trans HO.out ho3)
            have p7 := ho3.cell bx7 (fun h => h)
            clear ho3 HC b0 b1 b2 b3 b4 b5 b6 b7 bx7
            cases r
            · go_wp2_with fail
              go_ret
              exact ⟨⟨_, rfl⟩, HO3.out⟩
            · go_wp2_with fail
              go_roundg (na - (k + 1))
              case measure => have := HG.out; omega
              case rel => exact ⟨k + 1, by go_num, by omega, rfl, HO3.out, p7⟩
          · have hkn' : k = na := by omega
            subst hkn'
            have k1 : (k : Int) ≤ (k : Int) := Int.le_refl _
            clear hr hc ht ih
            go_wp2_with fail
            go_ret
            exact ⟨⟨_, rfl⟩, HO.out⟩
theorem light_any {Z : Nat → Prop} {w0 : World} {xv : Value} {l : List Ex} (h : ExS Z w0 xv l) (op f n i : Int) (nm st : ByteArray) (ao : Option Addr) (m cap : Nat) (w : World) (hw : Only Nil w0 w) :
    Calls Try.prog 9 #[.agg #[.int .i64 op, .int .i64 f, .int .i64 n, .string nm, .slice ao m cap, .int .i32 i, .string st, xv]] w fun e w' => (∃ r, e = .returned (.bool r)) ∧ Only Nil w w' := by
  have HC := Lib.hid (fun w' h' => depth_any h op f n i nm st (.slice ao m cap) 100 w' (Nat.le_refl _) h')
  have HW := Lib.hid hw
  obtain ⟨ao2, cap2, e⟩ := h.slice
  subst e
  obtain ⟨k, hk⟩ : ∃ k, l.length = k := ⟨_, rfl⟩
  rw [hk] at HC ⊢
  clear h hw hk
  go_enter Try.func9, Try.ntmps9
  go_wp2_with fail
  refine (HC.out _ (HW.out.alloc _)).mono ?_
  rintro e w3 ⟨⟨r, rfl⟩, ho3⟩
  have HO3 : Hid (Only Nil w w3) := Lib.hid (Nil.trans (alloc_nil _ _) ho3)
  clear ho3 HC
  go_wp2_with fail
  go_ret
  exact ⟨⟨_, rfl⟩, HO3.out⟩
set_option maxRecDepth 10000 in
set_option maxHeartbeats 1600000 in
theorem tells_any {Z : Nat → Prop} (x : Ex) (ov xv : Value) (w : World) (h1 : TyS Z w ov x.t.of) (h2 : ExS Z w xv x.x) :
    Calls Try.prog 3 #[.agg #[.int .i64 x.op, .int .i64 x.t.form, .int .i64 x.t.n, .string x.t.name, ov, .int .i32 x.i, .string x.s, xv]] w fun e w' => e = .returned (.bool true) ∧ Only Nil w w' := by
  have HT := Lib.hid (fun w' (h' : Only Nil w w') => told_any x h1 h2 w' h')
  have CK := fun w => known13_any w
  obtain ⟨ao0, cap0, e0⟩ := h1.slice
  subst e0
  obtain ⟨m0, hm0⟩ : ∃ k, x.t.of.length = k := ⟨_, rfl⟩
  rw [hm0] at HT ⊢
  have HL := Lib.hid (fun w' (h' : Only Nil w w') => light_any h2 x.op x.t.form x.t.n x.i x.t.name x.s ao0 m0 cap0 w' h')
  obtain ⟨ao1, cap1, e1⟩ := h2.slice
  subst e1
  obtain ⟨m1, hm1⟩ : ∃ k, x.x.length = k := ⟨_, rfl⟩
  rw [hm1] at HT HL ⊢
  clear h1 h2 hm0 hm1
  go_enter Try.func3, Try.ntmps3
  go_wp2_with fail
  refine (CK _).mono ?_
  rintro e w3 ⟨rfl, ho3⟩
  have HO3 : Hid (Only Nil w w3) := Lib.hid (Nil.trans (alloc_nil _ _) ho3)
  have hB := (Blk.new w #[.int .i64 x.op, .int .i64 x.t.form, .int .i64 x.t.n, .string x.t.name, .slice ao0 m0 cap0, .int .i32 x.i, .string x.s, .slice ao1 m1 cap1] 27).kept ho3 (fun h => h)
  have HB := Lib.hid hB
  obtain ⟨⟨c0, c1, c2, c3, c4, c5, c6, c7⟩, _⟩ := hB.Eights
  clear ho3 hB CK
  go_wp2_with fail
  refine (HL.out _ HO3.out).mono ?_
  rintro e w4 ⟨⟨r, rfl⟩, ho4⟩
  have HO4 := Lib.hid (Nil.trans HO3.out ho4)
  obtain ⟨⟨d0, d1, d2, d3, d4, d5, d6, d7⟩, _⟩ := (HB.out.kept ho4 (fun h => h)).Eights
  clear ho4 HL c0 c1 c2 c3 c4 c5 c6 c7
  cases r
  · go_wp2_with fail
    go_ret
    exact ⟨rfl, HO4.out⟩
  · go_wp2_with fail
    refine (HT.out _ HO4.out).mono ?_
    rintro e w5 ⟨rfl, ho5⟩
    have HO5 := Lib.hid (Nil.trans HO4.out ho5)
    clear ho5 HT
    go_wp2_with fail
    go_ret
    exact ⟨rfl, HO5.out⟩
end Go.Proofs.Ytgicibblkmeoeaa
