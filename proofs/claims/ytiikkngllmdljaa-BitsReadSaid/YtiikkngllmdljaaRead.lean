/- The walk of the law BitsRead. -/
import Derived.Test.YtiikkngllmdljaaKnown
import Derived.Test.YtiikkngllmdljaaRowIn
namespace Go.Proofs.Ytiikkngllmdljaa
open Go.RowKit M

/-- What is left to be read, as the law keeps it: a slice that loses its head. -/
def Tail (w : World) (ub : Nat) (s : Value) (xs : List Bool) : Prop :=
  ∃ ao off cap, s = .slice ao xs.length cap ∧ (ao = none → cap = 0) ∧ (∀ ad, ao = some ad → ad = ⟨ub, off, none⟩) ∧ xs.length ≤ cap ∧ cap ≤ maxLen ∧ CellsAt w ub off (xs.map Value.bool)

theorem Tail.kept {S : Nat → Prop} {w w' : World} {ub : Nat} {s : Value} {xs : List Bool} (h : Tail w ub s xs) (ho : Only S w w') (hb : 0 < xs.length → ¬ S ub) : Tail w' ub s xs := by
  obtain ⟨ao, off, cap, h1, h2, h3, h4, h5, h6⟩ := h
  exact ⟨ao, off, cap, h1, h2, h3, h4, h5, h6.kept ho (fun h => hb (by simpa using h))⟩

theorem Tail.of_own {w : World} {base : Nat} {e : TypeId} {v : Value} {xs : List Bool} {n : Nat} (h : w.ownsRow base e 1 v n (xs.map Value.bool)) : Tail w (v.ownBlock.getD 0) v xs := by
  obtain ⟨ao, cap, off, h1, h2, h3, h4⟩ := Src.of_own h
  have hl : xs.length = n := by have := h.1; simpa using this
  rcases h.2 with ⟨rfl, h0⟩ | ⟨g, cap', cur, rfl, hb, hg, hnc, hcm, _⟩
  · have hx : xs = [] := List.eq_nil_of_length_eq_zero (by omega)
    subst hx
    exact ⟨none, 0, 0, rfl, fun _ => rfl, fun ad h => by simp at h, Nat.le_refl _, Nat.zero_le _, fun i u hi => by simp at hi⟩
  · simp only [Value.slice.injEq] at h1
    obtain ⟨rfl, _, rfl⟩ := h1
    refine ⟨_, 0, cap', by rw [hl], fun h => by simp at h, fun ad h => by simp at h; rw [← h]; rfl, by omega, hcm, ?_⟩
    intro i u hi
    have := h4 i u hi
    have hne : 0 < xs.length := by have := (List.getElem?_eq_some_iff.1 hi).1; simp at this; omega
    have ho := h2 (by simpa using hne)
    simp at ho
    rw [← ho.2] at this
    exact this

theorem cells_drop {w : World} {ub off : Nat} {xs : List Bool} (h : CellsAt w ub off (xs.map Value.bool)) (n : Nat) : CellsAt w ub (off + n) ((xs.drop n).map Value.bool) := by
  intro i u hi
  rw [List.map_drop, List.getElem?_drop] at hi
  have := h (n + i) u hi
  rw [← Nat.add_assoc] at this
  exact this

def I64i (l : List Int) : List Value := l.map (Value.int .i64)

set_option maxRecDepth 10000 in
set_option maxHeartbeats 800000 in
theorem read_any (bb nb capb : Nat) (ab al : Option Addr) (nl capl bl offl : Nat) (B : List Nat) (l : List Int) (w : World)
    (hBl : B.length = nb) (hB : Src w bb (.slice ab nb capb) (U8s B)) (hB8 : ∀ x ∈ B, x < 256)
    (hll : l.length = nl) (hal : 0 < nl → al = some ⟨bl, offl, none⟩) (hl : CellsAt w bl offl (I64i l)) (hlw : 0 < nl → bl < w.heap.size) :
    Calls Try.prog 4 #[.slice ab nb capb, .slice al nl capl] w fun e w' => e = .returned (.bool true) ∧ Only Nil w w' := by
  have HAL := Lib.hid hal
  have HL := Lib.hid hl
  have HLL := Lib.hid hll
  have HLW := Lib.hid hlw
  have HBL := Lib.hid hBl
  clear hal hl hll hlw hBl
  by_cases h100 : 100 < nb
  · go_enter Try.func4, Try.ntmps4
    go_wp2_with (go_at_call 7; refine (known_any w).mono ?_; rintro e w1 ⟨rfl, ho1⟩)
    go_ret
    exact ⟨rfl, ho1⟩
  · have t100 : decide ((100 : Int) < (nb : Int)) = false := by simp; omega
    by_cases h60 : 60 < nl
    · go_enter Try.func4, Try.ntmps4
      go_wp2_with (go_at_call 7; refine (known_any w).mono ?_; rintro e w1 ⟨rfl, ho1⟩)
      go_ret
      exact ⟨rfl, ho1⟩
    · have t60 : decide ((60 : Int) < (nl : Int)) = false := by simp; omega
      have hB1 : B.length ≤ 1099511627776 := by rw [HBL.out]; omega
      go_enter Try.func4, Try.ntmps4
      go_wp2_with (go_at_call 7; refine (known_any w).mono ?_; rintro e w1 ⟨rfl, ho1⟩)
      have hsz1 := ho1.size
      refine (newReader_any bb _ B w1 (hB.kept ho1 (fun _ h => h)) hB1).mono ?_
      rintro e w2 ⟨a, r, rfl, ha, hR2, hr2, ho2⟩
      have ho12 := ho1.trans ho2 (fun _ _ h => h)
      have hB2 := hB.kept ho12 (fun _ h => h)
      have hwa : w.heap.size ≤ a := by omega
      have hwr : ∀ k, r = some k → w.heap.size ≤ k := fun k hk => by have := hr2 k hk; omega
      have HWR := Lib.hid hwr
      clear ho1 ho2 hsz1 ha hr2 hB hwr
      go_wp2_with fail
      refine (unpack_any bb _ B w2 hB2 hB8 hB1).mono ?_
      rintro e w3 ⟨sv, rfl, hown3, ho3⟩
      have hR3 := hR2.kept ho3 (fun h => h) (fun _ _ h => h)
      have honly := ho12.trans ho3 (fun _ _ h => h)
      have hrl := hR2.lt
      have htail := Tail.of_own hown3
      have hub : B.length ≠ 0 → w2.heap.size ≤ sv.ownBlock.getD 0 := by
        intro h
        obtain ⟨g, cap, he, hg, _⟩ := ownsRow_shape hown3 (by simp; omega)
        rw [he]; simpa [Value.ownBlock] using hg
      obtain ⟨ub, hube⟩ : ∃ ub, sv.ownBlock.getD 0 = ub := ⟨_, rfl⟩
      rw [hube] at hub htail
      go_wp2_with fail
      have huba : 0 < B.length → ub ≠ a ∧ w.heap.size ≤ ub := fun h => by have := hub (by omega); have := hrl.1; omega
      have HUBA := Lib.hid huba
      have HB8 := Lib.hid hB8
      clear hub hube hrl huba ho12 hB2 hR2 hown3 ho3 hB8
      go_loopg [6, 7] nl (fun g s i wx => g ≤ nl ∧ i = .int .i64 ((nl - g : Nat) : Int) ∧ ∃ M, M ≤ 8 * B.length ∧ RRep wx a B M r ∧ Tail wx ub s ((unpack B).drop M) ∧ Only Nil w wx)
      case atStart => exact ⟨Nat.le_refl _, by simp, 0, Nat.zero_le _, hR3, by simpa using htail, honly⟩
      case round =>
        clear hR3 htail honly
        obtain ⟨hg, rfl, M, hM, hR, htail, honly⟩ := hrel
        obtain ⟨g, rfl⟩ : ∃ g, g = gk := ⟨gk, rfl⟩
        obtain ⟨j, hj⟩ : ∃ j, nl - g = j := ⟨_, rfl⟩
        rw [hj]
        have hjk : j ≤ nl := by omega
        have HJ := Lib.hid hj
        clear hj
        obtain ⟨ao, off, cap, rfl, hao1, hao2, hcap, hcap2, hcs⟩ := htail
        have hlen : ((unpack B).drop M).length = 8 * B.length - M := by simp
        obtain ⟨N, hN⟩ : ∃ N, 8 * B.length - M = N := ⟨_, rfl⟩
        rw [hN] at hlen
        rw [hlen] at hcap ⊢
        have hN8 : N ≤ 800 := by have := HBL.out; omega
        have HAO1 := Lib.hid hao1
        have HAO2 := Lib.hid hao2
        have HN := Lib.hid hN
        have HLEN := Lib.hid hlen
        have HCAP2 := Lib.hid hcap2
        clear hao1 hao2 hN hlen hcap2
        by_cases hjl : j < nl
        · have hjl2 : j < l.length := by rw [HLL.out]; exact hjl
          have hal := HAL.out (by omega)
          subst hal
          obtain ⟨x, hx⟩ : ∃ x, l[j] = x := ⟨_, rfl⟩
          have c0 := honly.cell (HL.out j (.int .i64 x) (by simp [I64i, List.getElem?_eq_getElem hjl2, hx])) (fun h => h)
          clear hx
          by_cases hok : 0 ≤ x ∧ x ≤ 64 ∧ x ≤ N
          · obtain ⟨n, rfl⟩ : ∃ n : Nat, x = n := ⟨x.toNat, by omega⟩
            have hn64 : n ≤ 64 := by omega
            have hnN : n ≤ N := by omega
            have hget := get_any a M n B wr hR (by have := HN.out; omega) HB8.out hn64 hB1
            obtain ⟨Z, hZ⟩ : ∃ Z, number (((unpack B).drop M).take n) = Z := ⟨_, rfl⟩
            rw [hZ] at hget
            have hZ64 : Z < 2 ^ 64 := by
              rw [← hZ]
              refine Nat.lt_of_lt_of_le (number_lt _) (Nat.pow_le_pow_right (by omega) ?_)
              simp; omega
            have HZ := Lib.hid hZ
            have HZ64 := Lib.hid hZ64
            clear hZ hok hZ64
            have hZZ : ((Z : Int) != (Z : Int)) = false := by simp
            go_wp2_with fail
            refine hget.mono ?_
            rintro e w5 ⟨rfl, hR5, ho5⟩
            have hcs5 : CellsAt w5 ub off (((unpack B).drop M).map Value.bool) := hcs.kept ho5 (fun h h2 => by
              have h3 : ub = a := h2
              simp at h
              exact (HUBA.out (by omega)).1 h3)
            have honly5 : Only Nil w w5 := honly.trans ho5 (fun i hi h => by have h1 : i = a := h; omega)
            clear hR hget c0 hcs honly ho5
            go_upto_region 18 with fail
            have hsrcn : Src w5 ub (.slice ao n cap) ((((unpack B).drop M).take n).map Value.bool) := by
              refine ⟨ao, cap, off, by simp; have := HN.out; omega, fun h => ?_, HAO1.out, fun i u hi => ?_⟩
              · cases ao with
                | none => have := HAO1.out rfl; simp at h; omega
                | some ad => rw [HAO2.out ad rfl]
              · refine hcs5 i u ?_
                rw [List.map_take, List.getElem?_take] at hi
                split at hi
                · exact hi
                · cases hi
            have hnum := number_any ub (.slice ao n cap) (((unpack B).drop M).take n) w5 hsrcn (by simp; omega)
            rw [HZ.out, Nat.mod_eq_of_lt HZ64.out] at hnum
            have HCS := Lib.hid hcs5
            have hncap : n ≤ cap := by omega
            clear hsrcn hcs5
            go_cut [66] (fun s66 wx => s66 = .bool false ∧ w5 = wx)
            case first =>
              cases ao
              all_goals
                go_wp2_with (go_at_call 17; refine hnum.mono ?_; rintro e w6 ⟨rfl, rfl⟩)
                go_meet
                exact ⟨rfl, rfl⟩
            case rest =>
              obtain ⟨rfl, rfl⟩ := hcut
              clear hnum hZZ
              go_upto_region 20 with fail
              go_cut [6] (fun s6 wx => Tail w5 ub s6 ((unpack B).drop (M + n)) ∧ w5 = wx)
              case first =>
                cases ao
                all_goals go_wp2_with fail
                all_goals go_meet
                all_goals
                  have hl2 : ((unpack B).drop (M + n)).length = N - n := by simp; have := HN.out; omega
                  have hd : ((unpack B).drop (M + n)) = ((unpack B).drop M).drop n := by rw [List.drop_drop]
                  have hmax := HCAP2.out
                  refine ⟨?_, rfl⟩
                · exact ⟨none, off, cap - n, by rw [hl2], fun _ => by have := HAO1.out (by simp); omega, fun ad h => by simp at h, by omega, by omega, fun i u hi => by
                    have h1 := (List.getElem?_eq_some_iff.1 hi).1
                    have := HAO1.out (by simp)
                    simp at h1; have := HN.out; omega⟩
                · have hc0 : cap - n = 0 := by omega
                  exact ⟨_, off, 0, by rw [hl2], fun _ => rfl, fun ad h => by simp at h; rw [← h]; exact HAO2.out _ rfl, by omega, by omega, fun i u hi => by
                    have h1 := (List.getElem?_eq_some_iff.1 hi).1
                    simp at h1; have := HN.out; omega⟩
                · exact ⟨_, off + n, cap - n, by rw [hl2], fun h => by simp at h, fun ad h => by simp at h; rw [← h, HAO2.out _ rfl, addr_add], by omega, by omega, by rw [hd]; exact cells_drop HCS.out n⟩
              case rest =>
                obtain ⟨htail, rfl⟩ := hcut
                have hM2 : M + n ≤ 8 * B.length := by have := HN.out; omega
                have hrel : ∀ q, ∃ M', M' ≤ 8 * B.length ∧ RRep (w5.drewN q) a B M' r ∧ Tail (w5.drewN q) ub u6 ((unpack B).drop M') ∧ Only Nil w (w5.drewN q) := fun q => ⟨M + n, hM2, hR5.drewN q, htail, only_drewN honly5 q⟩
                obtain ⟨ao2, off2, cap2, rfl, hao1, hao2, hcap', _, hcs2⟩ := htail
                have hlen2 : ((unpack B).drop (M + n)).length = N - n := by simp; have := HN.out; omega
                obtain ⟨N2, hN2⟩ : ∃ N2, N - n = N2 := ⟨_, rfl⟩
                rw [hN2] at hlen2
                simp only [hlen2] at hrel
                have HREL := Lib.hid hrel
                have hsrc2 : Src w5 ub (.slice ao2 N2 cap2) (((unpack B).drop (M + n)).map Value.bool) := by
                  refine ⟨ao2, cap2, off2, by rw [List.length_map, hlen2], fun h => ?_, hao1, hcs2⟩
                  rw [List.length_map, hlen2] at h
                  cases ao2 with
                  | none => have := hao1 rfl; rw [hlen2] at hcap'; omega
                  | some ad => rw [hao2 ad rfl]
                rw [hlen2] at hcap' ⊢
                have hnum := fun q => number_any ub (.slice ao2 N2 cap2) ((unpack B).drop (M + n)) (w5.drewN q) hsrc2 (by rw [hlen2]; omega)
                have hleft := left_any a (M + n) B w5 hR5 hM2 hB1
                have hre := fun q => rest_any a (M + n) B (w5.drewN q) (hR5.drewN q) hM2 hB1 HB8.out
                have hN2e : 8 * B.length - (M + n) = N2 := by have := HN.out; omega
                rw [hN2e] at hleft
                obtain ⟨Y, hY⟩ : ∃ Y, number ((unpack B).drop (M + n)) = Y := ⟨_, rfl⟩
                have hY2 : N2 < 8 → Y < 2 ^ 64 := by
                  intro h8
                  rw [← hY]
                  refine Nat.lt_of_lt_of_le (number_lt _) (Nat.pow_le_pow_right (by omega) ?_)
                  rw [hlen2]; omega
                have hrest : restB B (M + n) = decide (N2 < 8 ∧ Y = 0) := by unfold restB; rw [hN2e, hY]
                simp only [hrest, hY] at hre hnum
                have HY2 := Lib.hid hY2
                clear hrel hao1 hao2 hcs2 hlen2 hsrc2 hN2e hY hY2 hrest hcap' hR5 honly5 HCS
                go_upto_region 21 with fail
                go_cut [87] (fun s87 wx => s87 = .bool false ∧ ∃ q, wx = w5.drewN q)
                case first =>
                  by_cases h8 : N2 < 8
                  · have hYm := Nat.mod_eq_of_lt (HY2.out h8)
                    rw [show (2 : Nat) ^ 64 = 18446744073709551616 by rfl] at hYm
                    rw [hYm] at hnum
                    have t8 : decide ((N2 : Int) < 8) = true := by simp; omega
                    by_cases h0 : Y = 0
                    · have e : decide (N2 < 8 ∧ Y = 0) = true := by simp [h0, h8]
                      rw [e] at hre
                      subst h0
                      clear e hYm h8
                      go_wp2_with (first
                        | (go_at_call 18; refine hleft.mono ?_; rintro e w6 ⟨rfl, q1, rfl⟩)
                        | (go_at_call 19; refine (hre _).mono ?_; rintro e w6 ⟨rfl, q2, rfl⟩)
                        | (go_at_call 17; refine (hnum _).mono ?_; rintro e w6 ⟨rfl, rfl⟩))
                      go_meet
                      exact ⟨rfl, _, rfl⟩
                    · have e : decide (N2 < 8 ∧ Y = 0) = false := by simp [h0]
                      rw [e] at hre
                      have hY0 : ((Y : Int) == 0) = false := by rw [beq_eq_false_iff_ne]; omega
                      clear e hYm h8
                      go_wp2_with (first
                        | (go_at_call 18; refine hleft.mono ?_; rintro e w6 ⟨rfl, q1, rfl⟩)
                        | (go_at_call 19; refine (hre _).mono ?_; rintro e w6 ⟨rfl, q2, rfl⟩)
                        | (go_at_call 17; refine (hnum _).mono ?_; rintro e w6 ⟨rfl, rfl⟩))
                      go_meet
                      exact ⟨rfl, _, rfl⟩
                  · have e : decide (N2 < 8 ∧ Y = 0) = false := by simp [h8]
                    rw [e] at hre
                    have t8 : decide ((N2 : Int) < 8) = false := by simp; omega
                    clear e h8
                    go_wp2_with (first
                        | (go_at_call 18; refine hleft.mono ?_; rintro e w6 ⟨rfl, q1, rfl⟩)
                        | (go_at_call 19; refine (hre _).mono ?_; rintro e w6 ⟨rfl, q2, rfl⟩)
                        | (go_at_call 17; refine (hnum _).mono ?_; rintro e w6 ⟨rfl, rfl⟩))
                    go_meet
                    exact ⟨rfl, _, rfl⟩
                case rest =>
                  obtain ⟨rfl, q, rfl⟩ := hcut
                  have hrel := HREL.out q
                  clear hnum hleft hre
                  go_wp2_with fail
                  go_roundg (g - 1)
                  case measure => have := HJ.out; omega
                  case rel => exact ⟨by omega, by have := HJ.out; go_num, hrel⟩
          · have hN3 := HN.out
            have hget := get_none a M x B wr hR hM hB1 (by rw [hN3]; exact hok)
            have htail : Tail wr ub (.slice ao N cap) ((unpack B).drop M) := ⟨ao, off, cap, by rw [HLEN.out], HAO1.out, HAO2.out, by rw [HLEN.out]; exact hcap, HCAP2.out, hcs⟩
            have hrel : ∀ q, ∃ M', M' ≤ 8 * B.length ∧ RRep (wr.drewN q) a B M' r ∧ Tail (wr.drewN q) ub (.slice ao N cap) ((unpack B).drop M') ∧ Only Nil w (wr.drewN q) := fun q => ⟨M, hM, hR.drewN q, htail, only_drewN honly q⟩
            have HREL := Lib.hid hrel
            have HOK := Lib.hid hok
            clear hN3 hrel htail hR honly hcs hok
            go_wp2_with fail
            refine hget.mono ?_
            rintro e w5 ⟨rfl, q, hw5⟩
            have hrel : ∃ M', M' ≤ 8 * B.length ∧ RRep w5 a B M' r ∧ Tail w5 ub (.slice ao N cap) ((unpack B).drop M') ∧ Only Nil w w5 := by rw [hw5]; exact HREL.out q
            have HR := Lib.hid hrel
            clear hw5 hget hrel c0
            go_upto_region 12 with fail
            go_cut [11] (fun s11 wx => s11 = .bool false ∧ w5 = wx)
            case first =>
              have hok := HOK.out
              by_cases h0 : 0 ≤ x
              · by_cases h1 : x ≤ 64
                · have h2 : decide (x ≤ (N : Int)) = false := by simp; omega
                  clear hok
                  go_wp2_with fail
                  go_meet
                  exact ⟨rfl, rfl⟩
                · have h2 : decide (x ≤ 64) = false := by simp; omega
                  clear hok
                  go_wp2_with fail
                  go_meet
                  exact ⟨rfl, rfl⟩
              · have h2 : decide (0 ≤ x) = false := by simp; omega
                clear hok
                go_wp2_with fail
                go_meet
                exact ⟨rfl, rfl⟩
            case rest =>
              obtain ⟨rfl, rfl⟩ := hcut
              go_wp2_with fail
              go_roundg (g - 1)
              case measure => have := HJ.out; omega
              case rel => exact ⟨by omega, by have := HJ.out; go_num, HR.out⟩
        · have hleft := left_any a M B wr hR hM hB1
          rw [HN.out] at hleft
          go_wp2_with fail
          refine hleft.mono ?_
          rintro e w5 ⟨rfl, q, rfl⟩
          go_wp2_with fail
          go_ret
          exact ⟨rfl, only_drewN honly q⟩
end Go.Proofs.Ytiikkngllmdljaa
