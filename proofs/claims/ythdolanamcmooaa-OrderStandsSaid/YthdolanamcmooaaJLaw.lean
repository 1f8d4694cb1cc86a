/- Layer 20: both dictionaries beside one another; the law. -/
import Derived.Test.YthdolanamcmooaaJPlays
set_option linter.unusedSimpArgs false
set_option linter.unusedVariables false
namespace Go.Proofs.Ythdolanamcmooaa
open Go.RowKit M

structure Pair2 (w0 w : World) (b mb rb m : Nat) (l1 l2 : List ByteArray) (nv rv : Value) : Prop where
  D : DNew w0 w b mb m l1 nv
  R : RNew w0 w rb m l2 rv
  ap : ∀ k, Own2 b mb nv.ownBlock k → ¬ OwnR rb rv.ownBlock k
theorem Pair2.made {w0 w1 w2 : World} {b mb rb m : Nat} {l1 l2 : List ByteArray} {nv rv : Value} (h : DNew w0 w1 b mb m l1 nv) (k : RNew w1 w2 rb m l2 rv) : Pair2 w0 w2 b mb rb m l1 l2 nv rv :=
  ⟨⟨h.at_.nil k.only, h.ge, h.only.trans k.only (fun _ _ h => h)⟩, ⟨k.at_, fun i hi => Nat.le_trans h.only.size (k.ge i hi), h.only.trans k.only (fun _ _ h => h)⟩, fun i h1 h2 => by
    have := h.at_.lt i h1
    have := k.ge i h2
    omega⟩
theorem Pair2.nil {w0 w w' : World} {b mb rb m : Nat} {l1 l2 : List ByteArray} {nv rv : Value} (h : Pair2 w0 w b mb rb m l1 l2 nv rv) (ho : Only Nil w w') : Pair2 w0 w' b mb rb m l1 l2 nv rv :=
  ⟨⟨h.D.at_.nil ho, h.D.ge, h.D.only.trans ho (fun _ _ h => h)⟩, ⟨h.R.at_.nil ho, h.R.ge, h.R.only.trans ho (fun _ _ h => h)⟩, h.ap⟩
theorem Pair2.putI {w0 w w' : World} {b mb rb m : Nat} {l1 l2 : List ByteArray} {nv rv : Value} {s : ByteArray} {e : Ending} (h : Pair2 w0 w b mb rb m l1 l2 nv rv) (hp : PutI w b mb m l1 nv s e w') : ∃ nv', e = .returned (putV m l1 s) ∧ Pair2 w0 w' b mb rb m (putD m l1 s) l2 nv' rv := by
  obtain ⟨nv', he, hD, ho, hm⟩ := h.D.put hp
  refine ⟨nv', he, ⟨hD, ⟨h.R.at_.kept ho (fun k hk hs => h.ap k hs hk), h.R.ge, hD.only⟩, ?_⟩⟩
  rintro k (rfl | rfl | hk) hr
  · exact h.ap _ (Or.inl rfl) hr
  · exact h.ap _ (Or.inr (Or.inl rfl)) hr
  · rcases hm with hm | ⟨j, hm, hj⟩
    · exact h.ap k (Or.inr (Or.inr (by rw [hk, hm]))) hr
    · rw [hm] at hk; injection hk with hk; have := h.R.at_.lt k hr; omega
theorem Pair2.putR {w0 w w' : World} {b mb rb m : Nat} {l1 l2 : List ByteArray} {nv rv : Value} {s : ByteArray} {e : Ending} (h : Pair2 w0 w b mb rb m l1 l2 nv rv) (hp : PutR w rb m l2 rv s e w') : ∃ rv', e = .returned (putV m l2 s) ∧ Pair2 w0 w' b mb rb m l1 (putD m l2 s) nv rv' := by
  obtain ⟨rv', he, hR, ho, hm⟩ := h.R.put hp
  refine ⟨rv', he, ⟨⟨h.D.at_.kept ho (fun k hk hs => h.ap k hk hs), h.D.ge, hR.only⟩, hR, ?_⟩⟩
  rintro k hd (rfl | hk)
  · exact h.ap _ hd (Or.inl rfl)
  · rcases hm with hm | ⟨j, hm, hj⟩
    · exact h.ap k hd (Or.inr (by rw [hk, hm]))
    · rw [hm] at hk; injection hk with hk; have := h.D.at_.lt k hd; omega
theorem flip_j {P : Program} {f : Nat} {args : Array Value} {v : Value} {w : World} (h : Calls P f args w fun e w' => e = .returned v ∧ w = w') : Calls P f args w fun e w' => e = .returned v ∧ w' = w := h.mono fun _ _ ⟨a, b⟩ => ⟨a, b.symm⟩

set_option maxRecDepth 100000 in
set_option maxHeartbeats 6400000 in
theorem dictPlays_any (most far : Int) (hfar : -9223372036854775808 ≤ far ∧ far ≤ 9223372036854775807) (a1 a2 : Option Addr) (n1 cap1 n2 cap2 b1 b2 : Nat) (S L0 : List ByteArray) (w : World) (h1 : InRow w a1 n1 cap1 b1 (S.map Value.string)) (hz1 : ∀ z ∈ S, z.size ≤ maxLen) (h2 : InRow w a2 n2 cap2 b2 (L0.map Value.string)) (hz2 : ∀ z ∈ L0, z.size ≤ maxLen) :
    Calls Try.prog 10 #[.int .i64 most, .slice a1 n1 cap1, .slice a2 n2 cap2, .int .i64 far] w fun e w' => e = .returned (.bool true) ∧ Only Nil w w' := by
  have cK := known20 w
  obtain ⟨l1, s1, lt1, le1, mx1, nn1⟩ := h1
  obtain ⟨l2, s2, lt2, le2, mx2, nn2⟩ := h2
  unfold maxLen at mx1 mx2
  rw [List.length_map] at l1 l2
  have HZ1 := Lib.hid hz1
  have HZ2 := Lib.hid hz2
  have HFR := Lib.hid hfar
  have HC1 := Lib.hid mx1
  have HC2 := Lib.hid mx2
  clear hz1 hz2 hfar mx1 mx2
  by_cases g1 : 30 < n1 ∨ 40 < n2
  · have HG := Lib.hid g1
    clear s1 s2 l1 l2
    by_cases g9 : 30 < n1
    · have t1 : (30 : Int) < (n1 : Int) := by omega
      clear g1
      go_enter Try.func10, Try.ntmps10
      go_wp2_with fail
      refine cK.mono ?_
      rintro e w1 ⟨rfl, ho1⟩
      clear cK
      go_wp2_with fail
      go_ret
      exact ⟨rfl, ho1⟩
    · have t1 : decide ((30 : Int) < (n1 : Int)) = false := by simp; omega
      have t2 : (40 : Int) < (n2 : Int) := by omega
      clear g1
      go_enter Try.func10, Try.ntmps10
      go_wp2_with fail
      refine cK.mono ?_
      rintro e w1 ⟨rfl, ho1⟩
      clear cK
      go_wp2_with fail
      go_ret
      exact ⟨rfl, ho1⟩
  have hn1 : n1 ≤ 30 := by omega
  have hn2 : n2 ≤ 40 := by omega
  have t1 : decide ((30 : Int) < (n1 : Int)) = false := by simp; omega
  have t2 : decide ((40 : Int) < (n2 : Int)) = false := by simp; omega
  obtain ⟨q, hq, cP⟩ := placeF_any most 20 (by omega) (by omega)
  have HL1 := Lib.hid l1
  have HL2 := Lib.hid l2
  have HS1 := Lib.hid (show Src w b1 (.slice a1 n1 cap1) (Strs S) from s1)
  have HS2 := Lib.hid (show Src w b2 (.slice a2 n2 cap2) (Strs L0) from s2)
  clear l1 l2 s1 s2 g1 hq
  go_enter Try.func10, Try.ntmps10
  go_wp2_with fail
  refine cK.mono ?_
  rintro e w1 ⟨rfl, ho1⟩
  have HO1 := Lib.hid ho1
  clear cK ho1
  go_wp2_with fail
  refine (cP _).mono ?_
  rintro e w9 ⟨rfl, rfl⟩
  clear cP
  go_wp2_with fail
  have hB0 := Blk.new w1 (Ints [most, (q : Int)]).toArray 3
  have HO2 := Lib.hid (HO1.out.alloc (.cells (Ints [most, (q : Int)]).toArray 3))
  obtain ⟨w2, hw2⟩ : ∃ w2, w1.alloc (.cells (Ints [most, (q : Int)]).toArray 3) = w2 := ⟨_, rfl⟩
  rw [hw2] at hB0 HO2
  have hw2' : w1.alloc (.cells #[Value.int .i64 most, .int .i64 (q : Int)] 3) = w2 := hw2
  rw [hw2']
  obtain ⟨zb, hzb⟩ : ∃ zb, w1.heap.size = zb := ⟨_, rfl⟩
  rw [hzb] at hB0 ⊢
  have HB0 := Lib.hid hB0
  clear hw2 hw2' hzb hB0 HO1
  go_loopg [44] 2 (fun g i wr => ∃ (k : Nat), i = .int .i64 (k : Int) ∧ k ≤ 2 ∧ g = 2 - k ∧ Only Nil w2 wr)
  case atStart => exact ⟨0, rfl, Nat.zero_le _, rfl, Only.refl _ _⟩
  case round =>
    obtain ⟨k, rfl, hk, hg, ho⟩ := hrel
    obtain ⟨w4, rfl⟩ : ∃ w4, w4 = wr := ⟨wr, rfl⟩
    have HG := Lib.hid hg
    clear hg
    have k0 : (0 : Int) ≤ (k : Int) := Int.natCast_nonneg _
    by_cases hkn : k < 2
    · have k1 : (k : Int) < 2 := by omega
      have hBr := HB0.out.kept ho (fun h => h)
      have ck := (hBr.cell k).trans (Ints_get (X := [most, (q : Int)]) (show k < 2 from hkn))
      have hltz := hBr.lt
      obtain ⟨z, hz⟩ : ∃ z, [most, (q : Int)].getD k 0 = z := ⟨_, rfl⟩
      rw [hz] at ck
      have HOW := Lib.hid (HO2.out.trans ho (fun _ _ h => h))
      have hsr := HS1.out.kept HOW.out (fun _ h => h)
      have cI := newI_any z (clampD z) rfl a1 n1 cap1 b1 S w4 HL1.out hsr (by omega) HZ1.out
      have HO := Lib.hid ho
      have hcd := clampD_le z
      obtain ⟨m, hm⟩ : ∃ m, clampD z = m := ⟨_, rfl⟩
      have HM := Lib.hid hm
      rw [hm] at cI hcd
      clear hBr hz ho hsr hm
      go_wp2_with fail
      with_reducible refine cI.mono ?_
      rintro e w5 ⟨b, mb, nv, rfl, hD⟩
      have hsr := HS1.out.kept (HOW.out.trans hD.only (fun _ _ h => h)) (fun _ h => h)
      have cR := newR_any z m HM.out.symm a1 n1 cap1 b1 S w5 HL1.out hsr (by omega) HZ1.out
      have HD := Lib.hid hD
      clear cI hD hsr
      go_wp2_with fail
      with_reducible refine cR.mono ?_
      rintro e w6 ⟨rb, rv, rfl, hR⟩
      have hP := Pair2.made HD.out hR
      have hl0 : (seedD m [] S).length ≤ 30 := by
        have := seedD_len m S n1
        rw [List.take_of_length_le (by rw [HL1.out]; exact Nat.le_refl _)] at this
        omega
      obtain ⟨LL, hLL⟩ : ∃ LL, seedD m [] S = LL := ⟨_, rfl⟩
      rw [hLL] at hP hl0
      have HP := Lib.hid hP
      clear cR hR hP hLL HD HM
      go_wp2_with fail
      go_loopg [13] n2 (fun g i wr => ∃ (j : Nat) (l : List ByteArray) (nv rv : Value), i = .int .i64 (j : Int) ∧ j ≤ n2 ∧ g = n2 - j ∧ l.length ≤ 30 + j ∧ Pair2 w4 wr b mb rb m l l nv rv)
      case atStart => exact ⟨0, LL, _, _, rfl, Nat.zero_le _, rfl, hl0, HP.out⟩
      case round =>
        clear HP
        obtain ⟨j, l, nv, rv, rfl, hj, hg, hl, hP⟩ := hrel
        have HGJ := Lib.hid hg
        clear hg
        have j0 : (0 : Int) ≤ (j : Int) := Int.natCast_nonneg _
        by_cases hjn : j < n2
        · have j1 : (j : Int) < (n2 : Int) := by omega
          obtain ⟨s, hs⟩ : ∃ s, L0[j]? = some s := ⟨_, List.getElem?_eq_getElem (by rw [HL2.out]; exact hjn)⟩
          have hsz := HZ2.out s (List.mem_of_getElem? hs)
          have HSZ := Lib.hid hsz
          obtain ⟨_, _, off, e, p1, p2, p3⟩ := HS2.out
          simp only [Value.slice.injEq] at e
          obtain ⟨rfl, hxx, rfl⟩ := e
          clear hxx
          have e1 := p1 (by rw [Strs_len, HL2.out]; omega)
          subst e1
          have T1 := Lib.hid (p3 j _ (Strs_at hs))
          have t3 := (HOW.out.trans hP.D.only (fun _ _ h => h)).cell T1.out (fun h => h)
          have cP := putI_any b mb m l nv s _ hP.D.at_ hsz (by omega) hcd
          have HP := Lib.hid hP
          obtain ⟨x1, x2, x3, hx⟩ := putV_shape m l s
          have HX := Lib.hid hx
          have hpl := putD_len m l s
          have HPL := Lib.hid hpl
          clear hs p1 p2 p3 hsz hP hx hpl
          go_wp2_with fail
          with_reducible refine cP.mono ?_
          rintro e w7 hp
          obtain ⟨nv2, rfl, hP2⟩ := HP.out.putI hp
          rw [HX.out]
          have t4 := (HOW.out.trans hP2.D.only (fun _ _ h => h)).cell T1.out (fun h => h)
          have cQ := putR_any rb m l rv s _ hP2.R.at_ (by omega) hcd
          have HP2 := Lib.hid hP2
          clear cP hp hP2 HP t3
          go_wp2_with fail
          with_reducible refine cQ.mono ?_
          rintro e w8 hp
          obtain ⟨rv2, rfl, hP3⟩ := HP2.out.putR hp
          rw [HX.out]
          have t5 := (HOW.out.trans hP3.D.only (fun _ _ h => h)).cell T1.out (fun h => h)
          have cF := findI_any b mb m _ nv2 s _ hP3.D.at_ HSZ.out
          have cG := findR_any rb m _ rv2 s _ hP3.R.at_ (by have := HPL.out; omega)
          unfold findV at cG
          obtain ⟨y1, hy1⟩ : ∃ y1, (if posB (putD m l s) s < (putD m l s).length then (posB (putD m l s) s : Int) else 0) = y1 := ⟨_, rfl⟩
          obtain ⟨y2, hy2⟩ : ∃ y2, decide (posB (putD m l s) s < (putD m l s).length) = y2 := ⟨_, rfl⟩
          rw [hy1, hy2] at cF cG
          have r1 : (x1 != x1) = false := by simp
          have r2 : (x2 != x2) = false := by simp
          have r3 : (x3 != x3) = false := by simp
          have r4 : (y1 != y1) = false := by simp
          have r5 : (y2 != y2) = false := by simp
          have HP3 := Lib.hid hP3
          clear cQ hp hP3 HP2 hy1 hy2 t4
          go_wp2_with fail
          with_reducible refine cF.mono ?_
          rintro e w9 ⟨rfl, rfl⟩
          clear cF
          go_wp2_with fail
          with_reducible refine cG.mono ?_
          rintro e w9 ⟨rfl, rfl⟩
          have cL := fun (q : Nat) => flip_j (lenI_any b mb m _ nv2 _ (HP3.out.D.at_.nil ((Only.refl Nil w8).drewN q)))
          have c0 : w8.cell? ⟨rb, 0, none⟩ = some rv2 := HP3.out.R.at_.blk.cell 0
          have hltr := HP3.out.R.at_.blk.lt
          obtain ⟨aor, capr, hrv⟩ := sl_of_own HP3.out.R.at_.names
          rw [hrv] at c0
          obtain ⟨N, hN⟩ : ∃ N, (putD m l s).length = N := ⟨_, rfl⟩
          rw [hN] at c0 cL
          have HN := Lib.hid hN
          have r6 : ((N : Int) != (N : Int)) = false := by simp
          have CL := Lib.hid cL
          clear cG hrv hN cL
          go_wp2_with fail
          go_quiet ((go_at_call 51; exact Calls.quiet_of_same (CL.out _)))
          have HP9 := Lib.hid (HP3.out.nil ((Only.refl Nil w8).drewN nq))
          clear c0
          go_wp2_with fail
          go_roundg (n2 - (j + 1))
          case measure => have := HGJ.out; omega
          case rel => exact ⟨j + 1, _, _, _, by go_num, by omega, rfl, by have := HPL.out; omega, HP9.out⟩
        · have hjn' : j = n2 := by omega
          subst hjn'
          have j1 : (j : Int) ≤ (j : Int) := Int.le_refl _
          obtain ⟨aor, capr, hrv⟩ := sl_of_own hP.R.at_.names
          subst hrv
          have c0 : wr.cell? ⟨rb, 0, none⟩ = some (.slice aor l.length capr) := hP.R.at_.blk.cell 0
          have hltr := hP.R.at_.blk.lt
          have HP := Lib.hid hP
          clear hP
          obtain ⟨N, hN⟩ : ∃ N, l.length = N := ⟨_, rfl⟩
          rw [hN] at c0 hl
          have HN := Lib.hid hN
          have wN : IntKind.i64.wrap ((N : Int) - 1) = (N : Int) - 1 := by rw [IntKind.wrap_i64]; omega
          have HLE := Lib.hid hl
          clear hN hl
          go_wp2_with fail
          go_region
          all_goals
            go_wp2_with fail
            have hBX := Blk.new wr (Ints [far, -1, (N : Int), 0, (N : Int) - 1]).toArray 3
            have hoX : Only Nil wr ((wr.alloc (.cells (Ints [far, -1, (N : Int), 0, (N : Int) - 1]).toArray 3)).drew) := ((Only.refl Nil wr).alloc _).drew
            have hBX2 := hBX.drew
            obtain ⟨w7, hw7⟩ : ∃ w7, (wr.alloc (.cells (Ints [far, -1, (N : Int), 0, (N : Int) - 1]).toArray 3)).drew = w7 := ⟨_, rfl⟩
            rw [hw7] at hBX2 hoX
            have hw7' : (wr.alloc (.cells #[Value.int .i64 far, .int .i64 (-1), .int .i64 (N : Int), .int .i64 0, .int .i64 ((N : Int) - 1)] 3)).drew = w7 := hw7
            rw [hw7']
            obtain ⟨xb, hxb⟩ : ∃ xb, wr.heap.size = xb := ⟨_, rfl⟩
            rw [hxb] at hBX2 ⊢
            have HBX := Lib.hid hBX2
            have HP7 := Lib.hid (HP.out.nil hoX)
            have hl7 : l.length = N := HN.out
            have HL7 := Lib.hid hl7
            clear hBX hoX hBX2 hw7 hw7' hxb HP wN c0 hltr hl7
            go_loopg [143] 5 (fun g i wr => ∃ (i0 : Nat), i = .int .i64 (i0 : Int) ∧ i0 ≤ 5 ∧ g = 5 - i0 ∧ wr = w7)
            case atStart => exact ⟨0, rfl, Nat.zero_le _, rfl, rfl⟩
            case round =>
              obtain ⟨i, rfl, hi, hg, rfl⟩ := hrel
              have HGI := Lib.hid hg
              clear hg
              have i0 : (0 : Int) ≤ (i : Int) := Int.natCast_nonneg _
              by_cases hi5 : i < 5
              · have i1 : (i : Int) < 5 := by omega
                have ci := (HBX.out.cell i).trans (Ints_get (X := [far, -1, (N : Int), 0, (N : Int) - 1]) (show i < 5 from hi5))
                have hltx := HBX.out.lt
                obtain ⟨x, hx⟩ : ∃ x, [far, -1, (N : Int), 0, (N : Int) - 1].getD i 0 = x := ⟨_, rfl⟩
                rw [hx] at ci
                clear hx
                have c0 : wr.cell? ⟨rb, 0, none⟩ = some (.slice aor l.length capr) := HP7.out.R.at_.blk.cell 0
                rw [HL7.out] at c0
                have hltr := HP7.out.R.at_.blk.lt
                by_cases gx : 0 ≤ x ∧ x < N
                · obtain ⟨p, rfl⟩ : ∃ p : Nat, x = p := ⟨x.toNat, by omega⟩
                  have hpN : p < N := by omega
                  obtain ⟨s, hs⟩ : ∃ s, l[p]? = some s := ⟨_, List.getElem?_eq_getElem (by rw [HL7.out]; exact hpN)⟩
                  have cI := getI_in b mb m p l nv s wr HP7.out.D.at_ hs (by rw [HL7.out]; have := HLE.out; omega)
                  obtain ⟨g9, cap9, hsh, z1, z2, z3, z4⟩ := ownsRow_shape HP7.out.R.at_.names (by rw [HL7.out]; omega)
                  simp only [Value.slice.injEq] at hsh
                  obtain ⟨rfl, hx9, rfl⟩ := hsh
                  have hc9 := (World.ownsRow.cellAt HP7.out.R.at_.names p (by rw [HL7.out]; omega)).trans (Strs_at hs)
                  have p0 : (0 : Int) ≤ (p : Int) := Int.natCast_nonneg _
                  have p1 : (p : Int) < (N : Int) := by omega
                  have p2 : decide (p < N) = true := by simpa using hpN
                  have p3 : (s.toList != s.toList) = false := by simp
                  unfold maxLen at z3
                  clear hx9 hs gx z2 z3
                  go_wp2_with fail
                  with_reducible refine cI.mono ?_
                  rintro e w8 ⟨rfl, rfl⟩
                  clear cI
                  go_wp2_with fail
                  go_roundg (5 - (i + 1))
                  case measure => have := HGI.out; omega
                  case rel => exact ⟨i + 1, by go_num, by omega, rfl, rfl⟩
                · have cI := getI_out b mb m x l nv wr HP7.out.D.at_ (by rw [HL7.out]; exact gx) (by rw [HL7.out]; have := HLE.out; omega)
                  have hin : decide (0 ≤ x) = false ∨ (decide (0 ≤ x) = true ∧ decide (x < (N : Int)) = false) := by
                    by_cases h : 0 ≤ x
                    · exact Or.inr ⟨by simpa using h, by simp; omega⟩
                    · exact Or.inl (by simpa using h)
                  rcases hin with hin | ⟨hin, hin2⟩
                  all_goals
                    clear gx
                    go_wp2_with fail
                    with_reducible refine cI.mono ?_
                    rintro e w8 ⟨rfl, rfl⟩
                    clear cI
                    go_wp2_with fail
                    go_roundg (5 - (i + 1))
                    case measure => have := HGI.out; omega
                    case rel => exact ⟨i + 1, by go_num, by omega, rfl, rfl⟩
              · have hi5' : i = 5 := by omega
                subst hi5'
                have HOE := Lib.hid (HO.out.trans HP7.out.D.only (fun _ _ h => h))
                go_wp2_with fail
                go_roundg (2 - (k + 1))
                case measure => have := HG.out; omega
                case rel => exact ⟨k + 1, by go_num, by omega, rfl, HOE.out⟩
    · have hkn' : k = 2 := by omega
      subst hkn'
      have HOW := Lib.hid (HO2.out.trans ho (fun _ _ h => h))
      clear ho
      go_wp2_with fail
      go_ret
      exact ⟨rfl, HOW.out⟩
end Go.Proofs.Ythdolanamcmooaa
