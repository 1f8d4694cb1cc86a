/- Layer 10: bytes are pumped in order, as many as may be. -/
import Derived.Test.YtpadipjppncabaaPPump
import Derived.Test.YtpadipjppncabaaGArgs
import Derived.Test.YtpadipjppncabaaVBase
import Derived.BigQuiet
set_option linter.unusedSimpArgs false
set_option linter.unusedVariables false
namespace Go.Proofs.Ytpadipjppncabaa
open Go.RowKit Go.Conc M

theorem place10_any (k : Int) : ∃ p : Nat, (p : Int) < 30 ∧ ∀ w,
    Calls Try.prog 13 #[.int .i64 k, .int .i64 30] w fun e w' => e = .returned (.int .i64 p) ∧ w = w' := by
  have h1 := Int.lt_tmod_of_pos k (show (0 : Int) < 30 by omega)
  have h2 := Int.tmod_lt_of_pos k (show (0 : Int) < 30 by omega)
  obtain ⟨t, ht⟩ : ∃ t, k.tmod 30 = t := ⟨_, rfl⟩
  rw [ht] at h1 h2
  have hw : IntKind.i64.wrap t = t := by rw [IntKind.wrap_i64]; omega
  by_cases h0 : t < 0
  · obtain ⟨p, hp⟩ : ∃ p : Nat, t + 30 = p := ⟨(t + 30).toNat, by omega⟩
    refine ⟨p, by omega, fun w => ?_⟩
    go_enter Try.func13, Try.ntmps13
    go_wp2
    go_ret
    exact ⟨by first | rfl | (rw [← hp]; rfl) | (rw [← hp, hw]; rfl), rfl⟩
  · obtain ⟨p, hp⟩ : ∃ p : Nat, t = p := ⟨t.toNat, by omega⟩
    refine ⟨p, by omega, fun w => ?_⟩
    go_enter Try.func13, Try.ntmps13
    go_wp2
    go_ret
    exact ⟨by first | rfl | (rw [← hp]; rfl) | (rw [← hp, hw]; rfl), rfl⟩
theorem ring_any (n m : Nat) (most : Int) (r : Nat) (hm : 1 ≤ m) (hr : min (max most 0) (n : Int) = (r : Int)) (w : World) :
    Calls Try.prog 16 #[.int .i64 n, .int .i64 m, .int .i64 most] w fun e w' => e = .returned (.int .i64 (r : Nat)) ∧ w = w' := by
  have t1 : decide ((m : Int) < 1) = false := by simp; omega
  clear hm
  go_enter Try.func16, Try.ntmps16
  go_wp2_with fail
  go_ret
  exact ⟨rfl, rfl⟩
theorem strOf_add (Y X : List Nat) : strOf Y ++ strOf X = strOf (Y ++ X) := by
  unfold strOf strOfNums
  apply ByteArray.ext
  simp
theorem strOf_len (X : List Nat) : (strOf X).size = X.length := by
  unfold strOf strOfNums
  show (Array.size _) = _
  simp
theorem ix_strOf (C : List Nat) (n k z : Nat) (hn : C.length = n) (h : k < n) (hz : C[k]? = some z) (hb : z < 256) (w : World) : (Instr.index 9 (.string (strOf C)) (.int .i64 (k : Int))).run Try.prog w = .ok (.int .u8 (z : Nat)) w := by
  subst hn
  have hs : k < (strOf C).size := by rw [strOf_len]; exact h
  rw [run_index_string w _ _ _ _ Try.underlying9, dif_pos ⟨by omega, by omega⟩]
  have e1 : ∀ hh : k < (strOf C).size, ((strOf C)[k]'hh).toNat = z := fun hh => by
    have e2 : ((strOf C)[k]'hh) = ((strOf C).data.toList[k]?).getD 0 := by
      rw [List.getElem?_eq_getElem (by rw [Array.length_toList]; exact hh)]
      rfl
    have e3 : (strOf C).data.toList = (C.map fun x => UInt8.ofNat x) := by
      unfold strOf strOfNums
      simp
    rw [e2, e3, List.getElem?_map, hz]
    show (UInt8.ofNat z).toNat = z
    rw [UInt8.toNat_ofNat']
    exact Nat.mod_eq_of_lt hb
  simp only [Int.toNat_natCast, e1]
theorem b8_u8 {l : List Int} (h : ∀ z ∈ l, (Lit.int .u8 z).wf = true) : ∃ B : List Nat, l = B.map (fun (x : Nat) => (x : Int)) ∧ ∀ x ∈ B, x < 256 := by
  refine ⟨l.map Int.toNat, ?_, fun x hx => ?_⟩
  · rw [List.map_map]
    have : l = l.map id := (List.map_id l).symm
    conv => lhs; rw [this]
    apply List.map_congr_left
    intro z hz
    have := bounds_u8 (h z hz)
    simp [Int.toNat_of_nonneg this.1]
  · simp only [List.mem_map] at hx
    obtain ⟨z, hz, rfl⟩ := hx
    have := bounds_u8 (h z hz)
    omega
theorem b8_of (B : List Nat) : B8 (B.map (fun (x : Nat) => (x : Int))) = U8s B := by simp [B8, U8s]
def castI (B : List Nat) : List Int := B.map (fun (x : Nat) => (x : Int))

set_option maxRecDepth 100000 in
set_option maxHeartbeats 6400000 in
theorem pumps_any (a0 a1 : Option Addr) (n0 n1 cap0 cap1 b0 b1 : Nat) (z0 z1 : List Int) (fr tt most : Int) (sh on : Bool) (w : World) (h0 : InRow w a0 n0 cap0 b0 (B8 z0)) (h1 : InRow w a1 n1 cap1 b1 (B8 z1)) (f0 : ∀ z ∈ z0, (Lit.int .u8 z).wf = true) (f1 : ∀ z ∈ z1, (Lit.int .u8 z).wf = true) :
    Calls Try.prog 4 #[.slice a0 n0 cap0, .slice a1 n1 cap1, .int .i64 fr, .int .i64 tt, .int .i64 most, .bool sh, .bool on] w fun e w' => e = .returned (.bool true) ∧ Only Nil w w' := by
  have cK := known10 w
  obtain ⟨X, rfl, fX⟩ := b8_u8 f0
  obtain ⟨Y, rfl, fY⟩ := b8_u8 f1
  obtain ⟨l0, s0, lt0, le0, mx0, nn0⟩ := h0
  obtain ⟨l1, s1, lt1, le1, mx1, nn1⟩ := h1
  rw [B8_len, List.length_map] at l0 l1
  by_cases g : 40 < n0 ∨ 40 < n1
  · clear s0 s1 l0 l1
    go_enter Try.func4, Try.ntmps4
    go_wp2_with fail
    refine cK.mono ?_
    rintro e w1 ⟨rfl, ho1⟩
    clear cK
    by_cases g0 : 40 < n0
    · have t0 : (40 : Int) < (n0 : Int) := by omega
      go_wp2_with fail
      go_ret
      exact ⟨rfl, ho1⟩
    · have t0 : decide ((40 : Int) < (n0 : Int)) = false := by simp; omega
      have t1 : (40 : Int) < (n1 : Int) := by omega
      go_wp2_with fail
      go_ret
      exact ⟨rfl, ho1⟩
  have t0 : decide ((40 : Int) < (n0 : Int)) = false := by simp; omega
  have t1 : decide ((40 : Int) < (n1 : Int)) = false := by simp; omega
  obtain ⟨p1, hp1, cP1⟩ := place10_any fr
  obtain ⟨p2, hp2, cP2⟩ := place10_any tt
  obtain ⟨m, hm⟩ : ∃ m : Nat, p1 + 1 = m := ⟨_, rfl⟩
  obtain ⟨n, hn⟩ : ∃ n : Nat, p2 + 1 = n := ⟨_, rfl⟩
  have hw1 : IntKind.i64.wrap ((p1 : Int) + 1) = (m : Int) := by rw [IntKind.wrap_i64]; omega
  have hw2 : IntKind.i64.wrap ((p2 : Int) + 1) = (n : Int) := by rw [IntKind.wrap_i64]; omega
  go_enter Try.func4, Try.ntmps4
  go_wp2_with fail
  refine cK.mono ?_
  rintro e w1 ⟨rfl, ho1⟩
  clear cK
  have S0 := Lib.hid (s0.kept ho1 (fun _ h => h))
  have S1 := Lib.hid (s1.kept ho1 (fun _ h => h))
  have HO1 := Lib.hid ho1
  have LT0 := Lib.hid lt0
  have LT1 := Lib.hid lt1
  clear s0 s1 lt0 lt1 nn0 nn1 ho1
  go_wp2_with fail
  refine (cP1 w1).mono ?_
  rintro e w' ⟨rfl, rfl⟩
  clear cP1
  go_wp2_with fail
  refine (cP2 w1).mono ?_
  rintro e w' ⟨rfl, rfl⟩
  clear cP2
  go_wp2_with fail
  clear hw1 hw2
  have cF1 := filled_any m b0 _ _ w1 S0.out (by rw [List.length_map]; omega)
  have hcm : capOf m = m := by unfold capOf; omega
  have hcn : capOf n = n := by unfold capOf; omega
  rw [hcm] at cF1
  refine cF1.mono ?_
  rintro e w2 ⟨p, c, rfl, hP, hc1, hpc1, ho2⟩
  have cF2 := filled_any n b1 _ _ w2 (S1.out.kept ho2 (fun _ h => h)) (by rw [List.length_map]; omega)
  rw [hcn] at cF2
  have HP := Lib.hid hP
  have HC1 := Lib.hid hc1
  have HPC1 := Lib.hid hpc1
  have HO2 := Lib.hid ho2
  have HCM := Lib.hid hcm
  have HCN := Lib.hid hcn
  unfold ptr
  clear cF1 hP hc1 hpc1 ho2 hcm hcn
  go_wp2_with fail
  refine cF2.mono ?_
  rintro e w3 ⟨q, d, rfl, hQ, hc2, hpc2, ho3⟩
  have hP := HP.out.kept ho3 (fun h => h) (fun h => h)
  have hoff : ∀ k, Two p c k → ¬ Two q d k := fun k h1 h2 => by
    have := HP.out.1.lt
    have := HP.out.clt
    have := HC1.out; have := HPC1.out
    rcases h1 with h1 | h1 <;> rcases h2 with h2 | h2 <;> omega
  have hnew : ∀ k, Two p c k ∨ Two q d k → w.heap.size ≤ k := fun k h => by
    have := HO1.out.size; have := HO2.out.size; have := HC1.out; have := HPC1.out
    rcases h with (h | h) | (h | h) <;> omega
  have S0' := (S0.out.kept HO2.out (fun _ h => h)).kept ho3 (fun _ h => h)
  have S1' := (S1.out.kept HO2.out (fun _ h => h)).kept ho3 (fun _ h => h)
  have ho := (HO1.out.trans HO2.out (fun _ _ h => h)).trans ho3 (fun _ _ h => h)
  clear HP HC1 HPC1 HO2 HO1 S0 S1 hc2 hpc2 ho3 cF2
  obtain ⟨k0, hk0⟩ : ∃ k0 : Nat, min n0 m = k0 := ⟨_, rfl⟩
  obtain ⟨k1, hk1⟩ : ∃ k1 : Nat, min n1 n = k1 := ⟨_, rfl⟩
  have hi0 : min (n0 : Int) (m : Int) = (k0 : Int) := by omega
  have hi1 : min (n1 : Int) (n : Int) = (k1 : Int) := by omega
  have X0 := S0'.takeK k0 (by omega)
  have Y0 := S1'.takeK k1 (by omega)
  have eX : (X.map (fun (x : Nat) => (x : Int))).take m = castI (X.take k0) := by
    unfold castI
    rw [← List.map_take, ← hk0]
    congr 1
    rw [List.take_eq_take_iff]
    omega
  have eY : (Y.map (fun (x : Nat) => (x : Int))).take n = castI (Y.take k1) := by
    unfold castI
    rw [← List.map_take, ← hk1]
    congr 1
    rw [List.take_eq_take_iff]
    omega
  rw [b8_of, show (U8s X).take k0 = U8s (X.take k0) by simp [U8s, List.map_take]] at X0
  rw [b8_of, show (U8s Y).take k1 = U8s (Y.take k1) by simp [U8s, List.map_take]] at Y0
  rw [eX] at hP
  rw [eY] at hQ
  have lX : (X.take k0).length = k0 := by rw [List.length_take]; omega
  have lY : (Y.take k1).length = k1 := by rw [List.length_take]; omega
  have gX : ∀ x ∈ X.take k0, x < 256 := fun x hx => fX x (List.mem_of_mem_take hx)
  have gY : ∀ x ∈ Y.take k1, x < 256 := fun x hx => fY x (List.mem_of_mem_take hx)
  obtain ⟨U, hU⟩ : ∃ U, X.take k0 = U := ⟨_, rfl⟩
  obtain ⟨V, hV⟩ : ∃ V, Y.take k1 = V := ⟨_, rfl⟩
  rw [hU] at X0 hP lX gX
  rw [hV] at Y0 hQ lY gY
  have u0 : (0 : Int) ≤ (k0 : Int) := Int.natCast_nonneg _
  have u1 : (0 : Int) ≤ (k1 : Int) := Int.natCast_nonneg _
  have v0 : (k0 : Int) ≤ (cap0 : Int) := by omega
  have v1 : (k1 : Int) ≤ (cap1 : Int) := by omega
  have kb0 : k0 ≤ m := by omega
  have kb1 : k1 ≤ n := by omega
  have mb : m ≤ 30 ∧ 1 ≤ m := by omega
  have nb : n ≤ 30 ∧ 1 ≤ n := by omega
  have LTX := Lib.hid (show 0 < (U8s U).length → b0 < w.heap.size from fun h => LT0.out (by rw [U8s_len, lX] at h; omega))
  have LTY := Lib.hid (show 0 < (U8s V).length → b1 < w.heap.size from fun h => LT1.out (by rw [U8s_len, lY] at h; omega))
  clear LT0 LT1
  have HP := Lib.hid hP
  have HQ := Lib.hid hQ
  have HX0 := Lib.hid X0
  have HY0 := Lib.hid Y0
  have HLX := Lib.hid lX
  have HLY := Lib.hid lY
  have HGX := Lib.hid gX
  have HGY := Lib.hid gY
  have HOFF := Lib.hid hoff
  have HNEW := Lib.hid hnew
  have HO := Lib.hid ho
  have KB0 := Lib.hid kb0
  have KB1 := Lib.hid kb1
  have MB := Lib.hid mb
  have NB := Lib.hid nb
  have V0 := Lib.hid v0
  unfold ptr
  clear hP hQ X0 Y0 lX lY gX gY hoff hnew ho S0' S1' eX eY hU hV hk0 hk1 kb0 kb1 mb nb hm hn hp1 hp2 g l0 l1 fX fY f0 f1 t0 t1 le0 le1 mx0 mx1
  go_wp2_with fail
  go_quiet (fail)
  go_upto_if 68 with fail
  go_cut [] (fun wx => PAt wx q d n (castI V) sh ∧ PAt wx p c m (castI U) false ∧ Src wx b0 (.slice a0 k0 cap0) (U8s U) ∧ Src wx b1 (.slice a1 k1 cap1) (U8s V) ∧ Only Nil w wx)
  case first =>
    cases sh with
    | false =>
      go_wp2_with fail
      go_meet
      have oq := (Only.refl Nil w3).drewN
      exact ⟨HQ.out.kept (oq _) (fun h => h) (fun h => h), HP.out.kept (oq _) (fun h => h) (fun h => h), HX0.out.kept (oq _) (fun _ h => h), HY0.out.kept (oq _) (fun _ h => h), HO.out.drewN _⟩
    | true =>
      go_wp2_with fail
      refine (closeP (HQ.out.kept ((Only.refl Nil w3).drewN _) (fun h => h) (fun h => h))).mono ?_
      rintro e w4 ⟨rfl, hQ4, ho4⟩
      have nP : ∀ i, Two p c i → ¬ Two q d i := HOFF.out
      have nX : 0 < (U8s U).length → ¬ Two q d b0 := fun h h2 => by have := LTX.out h; have := HNEW.out b0 (Or.inr h2); omega
      have nY : 0 < (U8s V).length → ¬ Two q d b1 := fun h h2 => by have := LTY.out h; have := HNEW.out b1 (Or.inr h2); omega
      have R1 := Lib.hid ((HP.out.kept ((Only.refl Nil w3).drewN _) (fun h => h) (fun h => h)).kept ho4 (nP p (Or.inl rfl)) (nP c (Or.inr rfl)))
      have R2 := Lib.hid ((HX0.out.kept ((Only.refl Nil w3).drewN _) (fun _ h => h)).kept ho4 nX)
      have R3 := Lib.hid ((HY0.out.kept ((Only.refl Nil w3).drewN _) (fun _ h => h)).kept ho4 nY)
      have R4 := Lib.hid ((HO.out.drewN _).trans ho4 (fun i hi h => by have := HNEW.out i (Or.inr h); omega))
      have R5 := Lib.hid hQ4
      clear hQ4 ho4
      go_wp2_with fail
      go_meet
      exact ⟨R5.out, R1.out, R2.out, R3.out, R4.out⟩
  case rest =>
    obtain ⟨hQ, hP, hX, hY, ho⟩ := hcut
    clear HQ HP HX0 HY0 HO hi0 hi1 v1
    obtain ⟨w3, rfl⟩ : ∃ w3, w3 = wc := ⟨wc, rfl⟩
    have lU : (castI U).length = k0 := by unfold castI; rw [List.length_map]; exact HLX.out
    have lV : (castI V).length = k1 := by unfold castI; rw [List.length_map]; exact HLY.out
    have HP := Lib.hid hP
    have HQ := Lib.hid hQ
    have HX := Lib.hid hX
    have HY := Lib.hid hY
    have HO := Lib.hid ho
    cases on with
    | true =>
      have cU := pump_one p c m (castI U) false most w3 hP (by have := KB0.out; omega) (by have := MB.out; omega)
      rw [lU] at cU
      have hr1 : roomOf false p p m k0 = (k0 : Int) := by simp [roomOf]
      rw [hr1] at cU
      clear hP hQ hX hY ho hr1
      unfold ptr at cU
      go_wp2_with fail
      refine cU.mono ?_
      rintro e w4 ⟨K, hK, rfl, hP4, ho4⟩
      clear cU
      have cS := stateP hP4
      have lS : (List.drop K (castI U) ++ List.take K (castI U)).length = k0 := by
        rw [List.length_append, List.length_drop, List.length_take, lU]
        omega
      rw [lS] at cS
      have HK := Lib.hid hK
      have O4 := Lib.hid (HO.out.trans ho4 (fun i hi h => by have := HNEW.out i (Or.inl h); omega))
      unfold ptr at cS
      clear hP4 ho4 lS hK
      go_wp2_with fail
      refine cS.mono ?_
      rintro e w5 ⟨rfl, ho5⟩
      clear cS
      have cR := ring_any k0 m most K MB.out.2 (by have := HK.out; unfold pumpN at this; omega) w5
      have O5 := Lib.hid ho5
      clear ho5
      go_wp2_with fail
      refine cR.mono ?_
      rintro e w6 ⟨rfl, rfl⟩
      clear cR
      go_wp2_with fail
      refine (pump_nil1 _ _ _).mono ?_
      rintro e w6 ⟨rfl, rfl⟩
      go_wp2_with fail
      refine (pump_nil2 _ _ _).mono ?_
      rintro e w6 ⟨rfl, rfl⟩
      go_wp2_with fail
      go_ret
      exact ⟨rfl, O4.out.trans O5.out (fun _ _ h => h)⟩
    | false =>
      have cU := pump_two p c m q d n (castI U) (castI V) false sh most w3 hP hQ HOFF.out (by have := MB.out; have := KB0.out; omega) (by have := KB1.out; omega) (by have := NB.out; omega)
      rw [lU, lV] at cU
      have hqp : q ≠ p := fun e => HOFF.out p (Or.inl rfl) (Or.inl e.symm)
      clear hP hQ hX hY ho
      unfold ptr at cU
      go_wp2_with fail
      refine cU.mono ?_
      rintro e w4 ⟨K, hK, rfl, hP4, hQ4, ho4⟩
      clear cU
      obtain ⟨R, hR⟩ : ∃ R : Nat, n - k1 = R := ⟨_, rfl⟩
      have hw1 : IntKind.i64.wrap ((n : Int) - (k1 : Int)) = (R : Int) := by have := NB.out; have := KB1.out; rw [IntKind.wrap_i64]; omega
      have hK0 := pumpN_le most k0 (roomOf sh q p n k1)
      rw [← hK] at hK0
      have nX : 0 < (U8s U).length → ¬ Four p c q d b0 := fun h h2 => by have := LTX.out h; have := HNEW.out b0 h2; omega
      have nY : 0 < (U8s V).length → ¬ Four p c q d b1 := fun h h2 => by have := LTY.out h; have := HNEW.out b1 h2; omega
      have hX4 := HX.out.kept ho4 nX
      have hY4 := HY.out.kept ho4 nY
      have O4 := Lib.hid (HO.out.trans ho4 (fun i hi h => by have := HNEW.out i h; omega))
      have HP4 := Lib.hid hP4
      have HQ4 := Lib.hid hQ4
      have HX4 := Lib.hid hX4
      have HY4 := Lib.hid hY4
      have HK := Lib.hid hK
      have HK0 := Lib.hid hK0
      have HR := Lib.hid hR
      clear hP4 hQ4 ho4 hX4 hY4 hK hK0 nX nY hR HP HQ HX HY HO
      obtain ⟨N, hN⟩ : ∃ N : Int, min (min (max most 0) (k0 : Int)) (R : Int) = N := ⟨_, rfl⟩
      have hmin := fun ts t w => min3 ts t w _ _ _ _ hN
      have HN := Lib.hid hN
      clear hN
      go_upto_if 117 with fail
      go_cut [25] (fun s25 wx => s25 = .int .i64 (K : Int) ∧ w4 = wx)
      case first =>
        cases sh with
        | false =>
          have e1 : N = K := by
            have h1 := HK.out
            have h2 := HN.out
            have h3 := HR.out
            have h4 := KB1.out
            simp only [roomOf, hqp, if_false, Bool.false_eq_true] at h1
            unfold pumpN at h1
            omega
          go_wp2_with fail
          go_meet
          exact ⟨by rw [e1], rfl⟩
        | true =>
          have e1 : K = 0 := by
            have h1 := HK.out
            simp only [roomOf, if_true] at h1
            unfold pumpN at h1
            omega
          go_wp2_with fail
          go_meet
          exact ⟨by rw [e1]; rfl, rfl⟩
      case rest =>
        obtain ⟨rfl, rfl⟩ := hcut
        clear hmin hw1 HN
        have xK := HX4.out.takeK K HK0.out
        rw [show (U8s U).take K = U8s (U.take K) by simp [U8s, List.map_take]] at xK
        have hv1 : ∀ q, (convert 27 9 (.slice a1 k1 cap1)).run Try.prog (w4.drewN q) = .ok (.string (strOf V)) (w4.drewN q) := fun q => conv_src _ _ _ V (HY4.out.kept ((Only.refl Nil w4).drewN q) (fun _ h => h))
        have hv2 : ∀ q, (convert 27 9 (.slice a0 K cap0)).run Try.prog (w4.drewN q) = .ok (.string (strOf (U.take K))) (w4.drewN q) := fun q => conv_src _ _ _ _ (xK.kept ((Only.refl Nil w4).drewN q) (fun _ h => h))
        have sz1 : (strOf V).size = k1 := by rw [strOf_len]; exact HLY.out
        have sz2 : (strOf (U.take K)).size = K := by rw [strOf_len, List.length_take, HLX.out]; have := HK0.out; omega
        have y1 : k1 ≤ 40 := by have := KB1.out; have := NB.out; omega
        have y2 : K ≤ 40 := by have := HK0.out; have := KB0.out; have := MB.out; omega
        have y3 : (0 : Int) ≤ (K : Int) := Int.natCast_nonneg _
        have y4 : (K : Int) ≤ (cap0 : Int) := by have := HK0.out; have := V0.out; omega
        clear xK
        go_wp2_with fail
        go_quiet (fail)
        have hq5 := Lib.hid ((Only.refl Nil w4).drewN nq)
        obtain ⟨w5, hw5⟩ : ∃ w5, w4.drewN nq = w5 := ⟨_, rfl⟩
        rw [hw5] at hq5 ⊢
        rw [strOf_add]
        clear hv1 hv2 hw5
        obtain ⟨C, hC⟩ : ∃ C, V ++ U.take K = C := ⟨_, rfl⟩
        obtain ⟨M, hM⟩ : ∃ M, k1 + K = M := ⟨_, rfl⟩
        have hCl : C.length = M := by rw [← hC, List.length_append, HLY.out, List.length_take, HLX.out]; have := HK0.out; omega
        have hCb : ∀ x ∈ C, x < 256 := fun x hx => by
          rw [← hC] at hx
          rcases List.mem_append.1 hx with h | h
          · exact HGY.out x h
          · exact HGX.out x (List.mem_of_mem_take h)
        have hCc : castI V ++ List.take K (castI U) = castI C := by rw [← hC]; unfold castI; simp [List.map_take]
        rw [hC]
        have szC : (strOf C).size = M := by rw [strOf_len]; exact hCl
        have hMb : M ≤ 80 := by omega
        have HQ5 := HQ4.out.kept hq5.out (fun h => h) (fun h => h)
        have HP5 := Lib.hid (HP4.out.kept hq5.out (fun h => h) (fun h => h))
        have O5 := Lib.hid (O4.out.trans hq5.out (fun _ _ h => h))
        rw [hCc] at HQ5
        have HQ5 := Lib.hid HQ5
        have HCL := Lib.hid hCl
        have HCB := Lib.hid hCb
        clear sz1 sz2 y1 y2 y3 y4 hC hM hCl hCb hCc HX4 HY4 HP4 HQ4 O4 hq5
        go_wp2_with fail
        go_loopg [27] M (fun g i wr => ∃ (k : Nat), i = .int .i64 (k : Int) ∧ k ≤ M ∧ g = M - k ∧ PAt wr q d n (castI (C.drop k)) sh ∧ PAt wr p c m (List.drop K (castI U)) false ∧ Only Nil w wr)
        case atStart => exact ⟨0, rfl, Nat.zero_le _, rfl, by simpa using HQ5.out, HP5.out, O5.out⟩
        case round =>
          clear HQ5 HP5 O5
          obtain ⟨k, rfl, hk, hg, hA, hB, ho⟩ := hrel
          have HG := Lib.hid hg
          have HO := Lib.hid ho
          have HB := Lib.hid hB
          clear hg
          have i0 : (0 : Int) ≤ (k : Int) := Int.natCast_nonneg _
          by_cases hkn : k < M
          · have i1 : (k : Int) < (M : Int) := by omega
            obtain ⟨z, hz⟩ : ∃ z, C[k]? = some z := ⟨_, List.getElem?_eq_getElem (by rw [HCL.out]; exact hkn)⟩
            have e1 : castI (C.drop k) = (z : Int) :: castI (C.drop (k + 1)) := by
              obtain ⟨h1, h2⟩ := List.getElem?_eq_some_iff.1 hz
              rw [List.drop_eq_getElem_cons h1, h2]
              rfl
            rw [e1] at hA
            have cP := pollS hA
            have hix := fun w => ix_strOf C M k z HCL.out hkn hz (HCB.out z (List.mem_of_getElem? hz)) w
            unfold ptr at cP
            clear hA hB ho e1 hz
            go_wp2_with fail
            refine cP.mono ?_
            rintro e w6 ⟨rfl, h3, o3⟩
            have H3 := Lib.hid h3
            have O3 := Lib.hid o3
            have H4 := Lib.hid (HB.out.kept o3 (fun h => HOFF.out p (Or.inl rfl) h) (fun h => HOFF.out c (Or.inr rfl) h))
            clear cP h3 o3
            go_wp2_with fail
            go_roundg (M - (k + 1))
            case measure => have := HG.out; omega
            case rel => exact ⟨k + 1, by go_num, by omega, rfl, H3.out, H4.out, HO.out.trans O3.out (fun i hi h => by have := HNEW.out i (Or.inr h); omega)⟩
          · have hkn' : k = M := by omega
            subst hkn'
            have i1 : (k : Int) ≤ (k : Int) := Int.le_refl _
            have e1 : castI (C.drop k) = [] := by rw [← HCL.out, List.drop_length]; rfl
            rw [e1] at hA
            have cP := pollN hA
            have cS := stateP hB
            obtain ⟨R2, hR2⟩ : ∃ R2, (List.drop K (castI U)).length = R2 := ⟨_, rfl⟩
            rw [hR2] at cS
            have hw2 : IntKind.i64.wrap ((k0 : Int) - (K : Int)) = (R2 : Int) := by
              rw [List.length_drop, lU] at hR2
              have := HK0.out; have := KB0.out; have := MB.out
              rw [IntKind.wrap_i64]; omega
            unfold ptr at cP cS
            clear hA hB ho e1 hR2 lU lV
            go_wp2_with fail
            refine cP.mono ?_
            rintro e w6 ⟨rfl, rfl⟩
            clear cP
            go_wp2_with fail
            refine cS.mono ?_
            rintro e w7 ⟨rfl, o7⟩
            have O7 := Lib.hid o7
            clear cS o7
            go_wp2_with fail
            go_ret
            exact ⟨rfl, HO.out.trans O7.out (fun _ _ h => h)⟩
end Go.Proofs.Ytpadipjppncabaa
