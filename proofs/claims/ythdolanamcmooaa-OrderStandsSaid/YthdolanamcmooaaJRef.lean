/- Layer 20: the document's dictionary. -/
import Derived.Test.YthdolanamcmooaaJDict
set_option linter.unusedSimpArgs false
set_option linter.unusedVariables false
namespace Go.Proofs.Ythdolanamcmooaa
open Go.RowKit M

def OwnR (b : Nat) (ob : Option Nat) : Nat → Prop := fun k => k = b ∨ some k = ob
/-- The document's dictionary at b. -/
structure RAt (w : World) (b most : Nat) (l : List ByteArray) (nv : Value) : Prop where
  blk : Blk w b #[nv, .int .i64 most] 80
  names : w.ownsRow 0 9 1 nv l.length (Strs l)
  nb : nv.ownBlock ≠ some b
theorem RAt.kept {S : Nat → Prop} {w w' : World} {b most : Nat} {l : List ByteArray} {nv : Value} (h : RAt w b most l nv) (ho : Only S w w') (h1 : ∀ k, OwnR b nv.ownBlock k → ¬ S k) : RAt w' b most l nv :=
  ⟨h.blk.kept ho (h1 b (Or.inl rfl)), ownsRow_only h.names ho (fun k hk => h1 k (Or.inr hk.symm)), h.nb⟩
theorem RAt.nil {w w' : World} {b most : Nat} {l : List ByteArray} {nv : Value} (h : RAt w b most l nv) (ho : Only Nil w w') : RAt w' b most l nv := h.kept ho (fun _ _ h => h)
/-- What Find tells. -/
def findV (l : List ByteArray) (s : ByteArray) : Value := .tuple #[.int .i64 (if posB l s < l.length then (posB l s : Int) else 0), .bool (decide (posB l s < l.length))]
/-- What Put leaves. -/
def PutR (w : World) (b most : Nat) (l : List ByteArray) (nv : Value) (s : ByteArray) (e : Ending) (w' : World) : Prop :=
  ∃ nv', e = .returned (putV most l s) ∧ RAt w' b most (putD most l s) nv' ∧ Only (OwnR b nv.ownBlock) w w' ∧ Moved w nv nv'

set_option maxRecDepth 10000 in
set_option maxHeartbeats 1600000 in
theorem findR_any (b most : Nat) (l : List ByteArray) (nv : Value) (s : ByteArray) (w : World) (hD : RAt w b most l nv) (hl : l.length ≤ 1000) :
    Calls Try.prog 50 #[.pointer (some ⟨b, 0, none⟩), .string s] w fun e w' => e = .returned (findV l s) ∧ w = w' := by
  obtain ⟨ao, cap, rfl⟩ := sl_of_own hD.names
  have c0 : w.cell? ⟨b, 0, none⟩ = some (.slice ao l.length cap) := hD.blk.cell 0
  have hlt := hD.blk.lt
  have hsrc : Src w _ (.slice ao l.length cap) (Strs l) := Src.of_own hD.names
  obtain ⟨_, _, off, e, p2, p3, p4⟩ := hsrc
  simp only [Value.slice.injEq] at e
  obtain ⟨rfl, hxx, rfl⟩ := e
  clear hxx
  rw [Strs_len] at p2
  obtain ⟨n, hn⟩ : ∃ n, l.length = n := ⟨_, rfl⟩
  obtain ⟨gb, hgb⟩ : ∃ gb, (Value.slice ao l.length cap).ownBlock.getD 0 = gb := ⟨_, rfl⟩
  rw [hgb] at p2 p4
  rw [hn] at c0 hl p2
  have HN := Lib.hid hn
  have H1 := Lib.hid p4
  have G1 := Lib.hid p2
  obtain ⟨R, hR⟩ : ∃ R, findV l s = R := ⟨_, rfl⟩
  rw [hR]
  have HR := Lib.hid hR
  clear hD hgb hn p4 p2 p3 hR
  go_enter Try.func50, Try.ntmps50
  go_wp2_with fail
  go_loopg [6] n (fun g i wr => wr = w ∧ g ≤ n ∧ i = .int .i64 ((n - g : Nat) : Int) ∧ ∀ j, j < n - g → l[j]? ≠ some s)
  case atStart => exact ⟨rfl, Nat.le_refl _, by simp, fun j hj => by omega⟩
  case round =>
    obtain ⟨rfl, hm, rfl, hX⟩ := hrel
    obtain ⟨g, rfl⟩ : ∃ g, g = gk := ⟨gk, rfl⟩
    obtain ⟨k, hk⟩ : ∃ k, n - g = k := ⟨_, rfl⟩
    rw [hk] at hX ⊢
    have hkn : k ≤ n := by omega
    have HK := Lib.hid hk
    have HX := Lib.hid hX
    clear hk hX
    have k0 : (0 : Int) ≤ (k : Int) := Int.natCast_nonneg _
    by_cases hkl : k < n
    · have k1 : (k : Int) < (n : Int) := by omega
      obtain ⟨y, hy⟩ : ∃ y, l[k]? = some y := ⟨_, List.getElem?_eq_getElem (by rw [HN.out]; exact hkl)⟩
      have e1 := G1.out (by omega)
      subst e1
      have t1 := H1.out k _ (Strs_at hy)
      have HY := Lib.hid hy
      clear hy
      by_cases hyz : y = s
      · subst hyz
        have hF : R = .tuple #[.int .i64 (k : Int), .bool true] := by
          rw [← HR.out]
          unfold findV
          rw [posB_eq l y k HY.out HX.out, HN.out, if_pos hkl, decide_eq_true hkl]
        have HF := Lib.hid hF
        clear hF
        go_wp2_with fail
        go_ret2
        exact ⟨by rw [HF.out]; rfl, rfl⟩
      · have HNE := Lib.hid hyz
        have e3 := bytes_ne hyz
        clear hyz
        go_wp2_with fail
        go_roundg (g - 1)
        case measure => have := HK.out; omega
        case rel =>
          rw [show n - (g - 1) = k + 1 by have := HK.out; omega]
          refine ⟨rfl, by omega, by have := HK.out; go_num, fun j hj => ?_⟩
          by_cases hjk : j = k
          · subst hjk; rw [HY.out]; intro h; injection h with h; exact HNE.out h
          · exact HX.out j (by omega)
    · have hF : R = .tuple #[.int .i64 0, .bool false] := by
        rw [← HR.out]
        unfold findV
        rw [posB_none l s (fun j hj => HX.out j (by rw [HN.out] at hj; omega)), if_neg (by omega), decide_eq_false (by omega)]
      have HF := Lib.hid hF
      clear hF
      have hkl2 : (n : Int) ≤ (k : Int) := by omega
      go_wp2_with fail
      go_ret2
      exact ⟨by rw [HF.out]; rfl, rfl⟩

set_option maxRecDepth 10000 in
set_option maxHeartbeats 1600000 in
theorem putR_any (b most : Nat) (l : List ByteArray) (nv : Value) (s : ByteArray) (w : World) (hD : RAt w b most l nv) (hl : l.length ≤ 1000) (hm : most ≤ 65536) :
    Calls Try.prog 48 #[.pointer (some ⟨b, 0, none⟩), .string s] w (PutR w b most l nv s) := by
  have cF := findR_any b most l nv s w hD hl
  obtain ⟨i0, hi0, hz0, hz1, hz2⟩ := info_parts infoStr
  by_cases g : posB l s < l.length
  · unfold findV at cF
    rw [if_pos g, decide_eq_true g] at cF
    have e1 : putV most l s = .tuple #[.int .i64 (posB l s : Nat), .bool false, .bool true] := if_pos g
    have e2 : putD most l s = l := if_pos g
    have HD := Lib.hid (show RAt w b most (putD most l s) nv by rw [e2]; exact hD)
    have HE := Lib.hid e1
    obtain ⟨p, hp⟩ : ∃ p, posB l s = p := ⟨_, rfl⟩
    rw [hp] at cF HE
    clear hD e1 e2 hp g
    go_enter Try.func48, Try.ntmps48
    go_wp2_with fail
    with_reducible refine cF.mono ?_
    rintro e w1 ⟨rfl, rfl⟩
    clear cF
    go_wp2_with fail
    go_ret3
    exact ⟨nv, by rw [HE.out]; rfl, HD.out, Only.refl _ _, Or.inl rfl⟩
  · unfold findV at cF
    rw [if_neg g, decide_eq_false g] at cF
    have c0 : w.cell? ⟨b, 0, none⟩ = some nv := hD.blk.cell 0
    have c1 : w.cell? ⟨b, 1, none⟩ = some (.int .i64 most) := hD.blk.cell 1
    have f0 := hD.blk.free 0
    have hlt := hD.blk.lt
    obtain ⟨ao, cap, hnv⟩ := sl_of_own hD.names
    rw [hnv] at c0
    have HNV := Lib.hid hnv
    by_cases g2 : most ≤ l.length
    · have e1 : putV most l s = .tuple #[.int .i64 0, .bool false, .bool false] := by unfold putV; rw [if_neg g, if_pos g2]
      have e2 : putD most l s = l := by unfold putD; rw [if_neg g, if_pos g2]
      have HD := Lib.hid (show RAt w b most (putD most l s) nv by rw [e2]; exact hD)
      have HE := Lib.hid e1
      have t1 : decide (most ≤ l.length) = true := by simpa using g2
      clear hD e1 e2 g g2 hnv
      obtain ⟨n, hn⟩ : ∃ n, l.length = n := ⟨_, rfl⟩
      rw [hn] at c0 t1 hl
      clear hn
      have t2 : (most : Int) ≤ (n : Int) := by simpa using t1
      go_enter Try.func48, Try.ntmps48
      go_wp2_with fail
      with_reducible refine cF.mono ?_
      rintro e w1 ⟨rfl, rfl⟩
      clear cF
      go_wp2_with fail
      go_quiet (fail)
      go_wp2_with fail
      go_ret3
      exact ⟨nv, by rw [HE.out]; rfl, HD.out.nil (by (repeat with_reducible first | exact Only.refl _ _ | refine Only.drewN ?_ _ | refine Only.drew ?_)), (by (repeat with_reducible first | exact Only.refl _ _ | refine Only.drewN ?_ _ | refine Only.drew ?_)), Or.inl rfl⟩
    · have e1 : putV most l s = .tuple #[.int .i64 (l.length : Nat), .bool true, .bool true] := by unfold putV; rw [if_neg g, if_neg g2]
      have e2 : putD most l s = l ++ [s] := by unfold putD; rw [if_neg g, if_neg g2]
      have HE1 := Lib.hid e1
      have HE2 := Lib.hid e2
      have hown := hD.names
      rw [hnv] at hown
      have HD := Lib.hid hD
      clear hD e1 e2 g hnv
      obtain ⟨n, hn⟩ : ∃ n, l.length = n := ⟨_, rfl⟩
      rw [hn] at c0 hown hl g2
      have HN := Lib.hid hn
      clear hn
      have t1 : decide (most ≤ n) = false := by simpa using g2
      have t2 : (n : Int) < (most : Int) := by omega
      have HT1 := Lib.hid t2
      clear g2
      have own9 : ∀ q, (w.drewN q).ownsRow 0 9 1 (.slice ao n cap) n (Strs l) := fun q => hown
      go_enter Try.func48, Try.ntmps48
      go_wp2_with fail
      with_reducible refine cF.mono ?_
      rintro e w1 ⟨rfl, rfl⟩
      clear cF
      go_wp2_with fail
      go_quiet (fail)
      have hown1 := own9 nq
      have ho0 : Only Nil w (w.drewN nq) := (Only.refl Nil w).drewN nq
      have hD1 := HD.out.nil ho0
      obtain ⟨w0, hw0⟩ : ∃ w0, w.drewN nq = w0 := ⟨_, rfl⟩
      rw [hw0] at hown1 hD1 ho0 ⊢
      have c00 : w0.cell? ⟨b, 0, none⟩ = some (.slice ao n cap) := by have h := hD1.blk.cell 0; rw [HNV.out, HN.out] at h; exact h
      have c01 : w0.cell? ⟨b, 1, none⟩ = some (.int .i64 most) := hD1.blk.cell 1
      have f00 := hD1.blk.free 0
      have hlt0 := hD1.blk.lt
      have HO0 := Lib.hid ho0
      have HD1 := Lib.hid hD1
      clear hw0 c0 c1 f0 hlt hown own9 ho0 hD1
      go_wp2_with (with_reducible refine wpList_append_one rfl _ _ 70 rfl 0 9 i0 (.string ByteArray.empty) 16 Try.underlying70 hi0 hz0 hz1 hz2 rfl _ _ _ rfl hown1 _ rfl rfl (by simp [maxLen]; omega) (by omega) (Nat.zero_le _) ?_)
      intro g2 cap2 w1 hown1 hc1 hc2 hg1 ho1
      have hD := HD1.out
      have hob : nv.ownBlock = (Value.slice ao n cap).ownBlock := by rw [HNV.out]; cases ao <;> rfl
      have nb := hD.nb
      rw [hob] at nb
      have hB1 := hD.blk.kept ho1 (fun h => nb h.symm)
      have gb : g2 ≠ b := by
        rcases hg1 with h | h
        · intro e; exact nb (by rw [← h, e])
        · have := hD.blk.lt; omega
      have hB2 := hB1.setCell 0 (.slice (some ⟨g2, 0, none⟩) (n + 1) cap2)
      have ho2 : Only (M.One b) w1 (w1.setCell ⟨b, 0, none⟩ (.slice (some ⟨g2, 0, none⟩) (n + 1) cap2)) := (Only.refl (M.One b) w1).setCell' (M.One b) rfl _
      have hown2 := ownsRow_only hown1 ho2 (fun k hk h => by
        have h1 : k = b := h
        have h2 : g2 = k := by simpa [Value.ownBlock] using hk
        exact gb (by rw [h2, h1]))
      have hlen : (l ++ [s]).length = n + 1 := by rw [List.length_append, HN.out]; rfl
      have hfin : RAt (w1.setCell ⟨b, 0, none⟩ (.slice (some ⟨g2, 0, none⟩) (n + 1) cap2)) b most (l ++ [s]) (.slice (some ⟨g2, 0, none⟩) (n + 1) cap2) :=
        ⟨hB2, by rw [hlen, Strs_snoc]; exact hown2, by simp [Value.ownBlock]; exact gb⟩
      have hoAll : Only (OwnR b nv.ownBlock) w (w1.setCell ⟨b, 0, none⟩ (.slice (some ⟨g2, 0, none⟩) (n + 1) cap2)) := by
        refine (HO0.out.mono (fun _ h => h.elim)).trans ((ho1.mono (fun k hk => (Or.inr (by rw [hob]; exact hk) : OwnR b nv.ownBlock k))).trans (ho2.mono (fun k hk => (Or.inl hk : OwnR b nv.ownBlock k))) (fun _ _ h => h)) (fun _ _ h => h)
      have hmv : Moved w nv (.slice (some ⟨g2, 0, none⟩) (n + 1) cap2) := by
        rcases hg1 with h | h
        · left; rw [hob]; exact h
        · right; exact ⟨g2, rfl, Nat.le_trans HO0.out.size h⟩
      have HF := Lib.hid hfin
      have HO := Lib.hid hoAll
      have HMV := Lib.hid hmv
      have d0 : w1.cell? ⟨b, 0, none⟩ = some (.slice ao n cap) := by rw [← HN.out, ← HNV.out]; exact hB1.cell 0
      have e0 := hB1.free 0
      have hl1 := hB1.lt
      have hl2 := hB2.lt
      have d2 : (w1.setCell ⟨b, 0, none⟩ (.slice (some ⟨g2, 0, none⟩) (n + 1) cap2)).cell? ⟨b, 0, none⟩ = some (.slice (some ⟨g2, 0, none⟩) (n + 1) cap2) := hB2.cell 0
      clear hown1 hg1 ho1 hD hob nb hB1 gb hB2 ho2 hown2 hlen hfin hoAll hmv c00 c01 f00
      go_wp2_with fail
      go_ret3
      exact ⟨_, by rw [HE1.out, HN.out]; rfl, by rw [HE2.out]; exact HF.out, HO.out, HMV.out⟩
end Go.Proofs.Ythdolanamcmooaa
